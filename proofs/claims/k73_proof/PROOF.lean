import PyProof.Rows.All
import Wide.All
import OpenK.AllK
import Wide.FinOn
import HandS.ForMost
import HandS.Exc
import HandS.ExcCtx
import HandS.ExcField
import HandS.ExcIs
import HandS.IsInst
import HandS.HotCalls
import HandS.Wide
import HandS.Style
import KE.KExcIs
import HandS.Evl
import HandS.Conv
import PyProof.LongRange
import HandS.TupAny
import HandS.TupMul
import HandS.TupLe
import HandS.StrMore
import HandS.StrSplit
import HandS.FStr
import HandS.Text
import HandS.Iter
import PyProof.StrBlock2
import KE.GoesMore
import HandS.Property
import HandS.IterNext
import HandS.IterVal
import HandS.OwnIter
import HandS.OwnEq
import PyProof.WalksMore
import HandS.SetFor
import PyProof.SetRoads
import KE.GoesZip
import HandS.NoneIn
import HandS.Star
import HandS.TupSets
import HandS.SortOrd
import HandS.SortInts
import HandS.Small
import KE.KDictSum
import HandS.More
import HandS.SortKw
import PyProof.MinMaxWalk
import PyProof.WalkInts
import HandS.Strs
import PySem.Challenge.RW_sumtalk_k73_circuit_values
set_option Elab.async false
set_option linter.all false
set_option maxRecDepth 100000
set_option maxHeartbeats 4000000
/-! an own error with one field, value: what the written part says of its class, and its making -/
namespace PySem
namespace Lowvalue
open PySem.W PySem.Calls PyProof.Rows PySem.HandSPX
def iA (p1 p2 : Pos) : Arguments := { posonlyargs := [], args := [{ arg := "self", annotation := none, pos := p1 }, { arg := "value", annotation := none, pos := p2 }], vararg := none, kwonlyargs := [], kw_defaults := [], kwarg := none, defaults := [] }
def iB (q1 q2 q3 q4 : Pos) : List Stmt := [.Assign [.Attribute (.Name "self" q1) "value" q2] (.Name "value" q3) q4]
def iS : Scope := { kind := .function, names := [(PySem.Str.ofString "self", .local), (PySem.Str.ofString "value", .local)], isGenerator := false, isCoroutine := false, more := [] }
/-- the class x at C, its __init__ (qn) at fI -/
structure LowTxt (K : Frag) (mg : Str → Option Value) (x qn : Str) (C fI : Addr) : Prop where
  g : mg x = some (.ref C)
  cls : ∃ nm q N bs bm sn sub ab col dd k0 k1 k2 k3 k5, K.lookup C = some (excClassObj nm q C N bs bm true sn sub ab col dd k0 k1 k2 k3 k5 "ValueError.__new__") ∧ refsVE bm = true
  sa : findIn K (.ref C) "__setattr__" = some (some (.builtin "object.__setattr__"))
  noN : findIn K (.ref C) "value" = some none
  iC : findIn K (.ref C) "__init__" = some (some (.ref fI))
  tC : typeIn K (.ref fI) = some (.type "function")
  kC : keepIn K (.ref C) = true
  exC : subIn K (.ref C) (.type "BaseException") = some true
  tyC : typeIn K (.ref C) = some (.type "type")
  fn : ∃ (oc : Value) (od : Option Addr) (kV doc pm : Value) (an : Option Addr) (cdv ct : Value) (osl : Array (Option Value)) (p1 p2 q1 q2 q3 q4 : Pos),
    K.lookup fI = some ⟨oc, od, .func (fnOf "__init__" qn (iA p1 p2) (iB q1 q2 q3 q4) iS .none kV doc pm an cdv ct), osl⟩ ∧ codeIn K cdv qn = true
theorem one_size (v : Value) : [v].length ≤ sizeLine := by
  rw [sizeLine_eq]
  exact (by decide : 1 ≤ 16777216)
theorem ldC {M : Model} {s : Shared} {name : Str} {scope : Scope} {L a : Addr} {cd : Value} {m : Str → Option Value} {x : Str} {pos : Pos} {v : Value} {Q : Value → Shared → Prop} {A : Around} {E : Value → Shared → Prop} (hn : s.heap.Ns L m) (hv : m x = some v) (h : Q v s)
    (hk : scope.kind = .function := by rfl) (hl : (envOfC name scope L a cd).kindOf x = some .local := by rfl) (hd : (x == ("__debug__" : Str)) = false := by decide) :
    wpAny M A (eval (.Name x pos) (envOfC name scope L a cd)) Q E s := wpAny_Name (wpAny_loadName_local hk hl hn hv h) hd
/-- what __init__ leaves of a fresh exception at x -/
structure InitEnd (h h' : Heap) (x C dx t1 : Addr) (v : Value) : Prop where
  keep : ∀ b o, b ≠ x → h.get? b = some o → h'.get? b = some o
  obj : h'.get? x = some { cls := .ref C, dict := some dx, data := .fields #[.ref t1, .none, .none, .none, .bool false, .none] }
  dbig : h.objs.size ≤ dx
  dne : dx ≠ x
  ns : h'.Ns1 dx (fun y => if y = "value" then some v else none)
/-- a made one -/
structure OwnMade (h h' : Heap) (e C d : Addr) (v : Value) : Prop where
  keep : ∀ b o, h.get? b = some o → h'.get? b = some o
  new : h.objs.size ≤ e
  obj : ∃ oe vs, h'.get? e = some oe ∧ oe.cls = .ref C ∧ oe.dict = some d ∧ oe.data = .fields vs ∧ vs[1]? = some .none ∧ vs[2]? = some .none
  dbig : h.objs.size ≤ d
  dne : d ≠ e
  ns : h'.Ns1 d (fun y => if y = "value" then some v else none)
section
variable {prog : Program} {w : World} {A : Around} {E : Value → Shared → Prop} {R : Result → Shared → Prop} {s : Shared} {K : Frag} {mg : Str → Option Value} {C fI : Addr} {xn qn : Str}
theorem low_init (T : LowTxt K mg xn qn C fI) {x t0 : Addr} {v : Value} (X : K.In s.heap) (hlim : s.heap.NoLimit) (hx : s.heap.get? x = some (excO C t0)) (hnx : K.lookup x = none) (hroom : A.depth < recursionLimit)
    (hq : ∀ h' tk dx, InitEnd s.heap h' x C dx t0 v → R (.ok (.ret .none)) { s with heap := h', toks := tk }) :
    codeAny (model prog w) A (.call (.ref fI) ⟨[.ref x, v], []⟩) R s := by
  obtain ⟨oc, od, kV, doc, pm, an, cdv, ct, osl, p1, p2, q1, q2, q3, q4, ho, hcd⟩ := T.fn
  obtain ⟨nm, q, N, bs, bm, sn, sub, ab, col, dd, k0, k1, k2, k3, k5, hC, hbm⟩ := T.cls
  have hcl : clsIn K C = some { name := nm, bases := bs, mro := .ref C :: bm, ns := N, qualname := q, hasDict := true, slotNames := sn, subclasses := sub, abstract := ab, collection := col, hasDel := false } := by unfold clsIn; rw [hC] <;> rfl
  refine Att.call_fn (binds := [("self", .ref x), ("value", v)]) X hlim ho hcd hroom (BindsTo.of_eq (by first | rfl | with_unfolding_all rfl)) (by first | rfl | decide | with_unfolding_all rfl) (fun s₁ IC => ?_) rfl rfl rfl
  obtain ⟨h₁, tk₁, rfl⟩ := IC.toInCall.same
  have k : ∀ b o, s.heap.get? b = some o → h₁.get? b = some o := IC.toInCall.keep
  have hn := IC.toInCall.ns
  have hxL : s.heap.objs.size ≠ x := Nat.ne_of_gt (Heap.lt_size hx)
  have X₁ : K.In h₁ := X.keeps k
  have hx₁ := k _ _ hx
  -- self.value = value
  show wpAny _ _ (execs _ _) _ _ _
  refine wpAny_execs_cons (plainObj_wpAny_Assign_Attribute ?_)
  refine ldC (v := v) hn (by first | rfl | with_unfolding_all rfl | kernel_rfl) (ldC (v := .ref x) hn (by first | rfl | with_unfolding_all rfl | kernel_rfl) ?_)
  refine set_plain X₁ (ox := excO C t0) (od := none) ⟨hx₁, rfl, rfl, trivial⟩ T.sa ?_
  refine exc_osa X₁ hx₁ hcl (show refsVE (.ref C :: bm) = true from hbm) rfl T.noN (fun h₃ tk₃ dx k₃ dn dne hx₃ hn₃ => ?_)
  show wpAny _ _ (execs _ _) _ _ _
  have z : s.heap.objs.size < h₁.objs.size := hn.lt
  exact wpAny_execs_nil (hq h₃ tk₃ dx ⟨fun b o hb e => k₃ b o hb (k b o e), hx₃, Nat.le_of_lt (Nat.lt_of_lt_of_le z dn), dne, hn₃⟩)
theorem low_made (T : LowTxt K mg xn qn C fI) {v : Value} (X : K.In s.heap) (hlim : s.heap.NoLimit) (hroom : A.depth + 1 < recursionLimit)
    (hq : ∀ h' tk e d, OwnMade s.heap h' e C d v → R (.ok (.ret (.ref e))) { s with heap := h', toks := tk }) :
    codeAny (model prog w) A (.call (.ref C) ⟨[v], []⟩) R s := by
  obtain ⟨nm, q, N, bs, bm, sn, sub, ab, col, dd, k0, k1, k2, k3, k5, hC, hbm⟩ := T.cls
  obtain ⟨hp, g, dr, tk, os⟩ := s
  have k : ∀ b o, hp.get? b = some o → ((hp.push (kdv_tup [v])).push (excO C hp.objs.size)).get? b = some o := fun b o e => Heap.get?_push_of_some _ (Heap.get?_push_of_some _ e)
  have hget : ((hp.push (kdv_tup [v])).push (excO C hp.objs.size)).get? (hp.objs.size + 1) = some (excO C hp.objs.size) := by heap_get
  have hnx : K.lookup (hp.objs.size + 1) = none := by
    cases e : K.lookup (hp.objs.size + 1) with
    | none => rfl
    | some o =>
      have z : hp.get? (hp.objs.size + 1) = some o := X _ _ e
      exact absurd (Nat.lt_of_succ_lt (Heap.lt_size z)) (Nat.lt_irrefl _)
  refine call_own F.excBase_ValueError (fun X => refsVE_contains X bm hbm) (X _ _ hC) (looks_findIn X T.iC) (fun self => bind_fn X self T.tC) (one_size v) ?_
  refine low_init (s := ⟨(hp.push (kdv_tup [v])).push (excO C hp.objs.size), g, dr, tk, os⟩) T (X.keeps k) (hlim.keeps k) hget hnx ?_ fun h' tk' dx ⟨k', hx, dn, dne, hns⟩ => ?_
  · show A.depth + 1 < recursionLimit
    exact hroom
  · have old : ∀ b o, hp.get? b = some o → h'.get? b = some o := fun b o e => k' b o (Nat.ne_of_lt (Nat.lt_succ_of_lt (Heap.lt_size e))) (k b o e)
    have z : hp.objs.size + 1 + 1 ≤ dx := by
      first
        | (simpa only [Heap.size_push] using dn)
        | exact dn
        | (have q := dn; rw [Heap.size_push, Heap.size_push] at q; exact q)
    exact ⟨rfl, hq h' tk' (hp.objs.size + 1) dx ⟨old, Nat.le_succ _, ⟨_, _, hx, rfl, rfl, rfl, rfl, rfl⟩, Nat.le_trans (Nat.le_trans (Nat.le_succ _) (Nat.le_succ _)) z, dne, hns⟩⟩
end
end Lowvalue
end PySem
namespace L2
open PySem PySem.Spec PyProof.Rows
theorem relO_value {v : V} {v' : Value} (r : RelV v v') (f : Str) : RelO (List.lookup f [(("value" : Str), v)]) (if f = "value" then some v' else none) := by
  by_cases hw : f = "value"
  · subst hw
    rw [if_pos rfl]
    have q : List.lookup ("value" : Str) [(("value" : Str), v)] = some v := by simp [List.lookup]
    rw [q]
    exact r
  · rw [if_neg hw]
    have qw : (f == ("value" : Str)) = false := by simpa using hw
    have q2 : List.lookup f [(("value" : Str), v)] = none := by simp [List.lookup, qw]
    rw [q2]
    trivial
section
variable {X : Cx} {C fI : Addr} {xn qn : Str}
/-- Low(e) -/
def tMkvalue (C : Addr) (ta : TA) : St → Hp → XK → Prop := fun σ H Q => ta σ H fun vs H1 => ∃ v, vs = [v] ∧ ∀ d, H1 d = none → Q (.ref C) (some d) (upd H1 d (.xd [(("value" : Str), v)]))
theorem pmk_value {a : Expr} {ta : TA} {p pos : Pos} {k : Nat} (T : PySem.Lowvalue.LowTxt X.K X.mg xn qn C fI) (hr : Room k X.A) (ha : PA X [a] ta) (hg : Gl X xn) (hdb : (xn == ("__debug__" : Str)) = false := by decide)
    (he : starEach (a :: []) X.env = (false, eval a X.env) :: starEach [] X.env := by rfl) (hpl : (backTo pos (starEach [] X.env)).any (·.1) = false := by rfl) :
    L2N.PMk X (.Call (.Name xn p) [a] [] pos) (tMkvalue C ta) := by
  intro pins s σ H Q I h
  refine wpAny_Call_Name_kw (ld_glob I hg T.g ?_ hdb)
  refine PySem.W.callWith_K (h₀ := X.base) I.ok.mod.kin T.kC (thn (ha.run pos pins s σ H _ I h) fun us s1 hh => ?_) he hpl
  obtain ⟨vs, H1, I1, r1, v, ev, q1⟩ := hh
  subst ev
  refine ⟨I1.kIn, ?_⟩
  cases r1 with
  | cons rv rn =>
    rename_i v' us'
    cases rn
    show wpAny _ _ (call (.ref C) [v']) _ _ _
    have hlim := I1.nolimit
    obtain ⟨hp, g, dr, tk, os⟩ := s1
    refine wpAny_call (PySem.Lowvalue.low_made T I1.kIn hlim (by have := hr.dp; omega) fun h' tk' e d M => ?_)
    show L2N.MkP X pins σ Q (.ref e) ⟨h', g, dr, tk', os⟩
    obtain ⟨oe, fv, hoe, hc, hd, hdat, h1, h2⟩ := M.obj
    have hns := M.ns
    obtain ⟨G', g1, g2⟩ := restrict h' fun b => decide (b ≠ e)
    have gk : ∀ b, b ≠ e → G'.get? b = h'.get? b := fun b hb => g1 b (decide_eq_true hb)
    have ge : G'.get? e = none := g2 e (by simp)
    have old : ∀ b o, hp.get? b = some o → G'.get? b = some o := fun b o q => (gk b (Nat.ne_of_lt (Nat.lt_of_lt_of_le (Heap.lt_size q) M.new))).trans (M.keep b o q)
    have ob : ObjOk X.prog X.w (upd H1 d (.xd [(("value" : Str), v)])) G' d (.xd [(("value" : Str), v)]) :=
      ⟨_, hns.at (fun o q => (gk d M.dne).trans q), fun f => relO_value rv f⟩
    have J : Inv X pins σ (upd H1 d (.xd [(("value" : Str), v)])) ⟨G', g, dr, tk', os⟩ := I1.laid (t' := tk') old M.dbig ob
    refine ⟨e, oe, fv, ⟨G', g, dr, tk', os⟩, _, .ref C, some d, rfl, J, fun b o q => ?_, ge, hoe, ⟨hc, hd, fun vs z => by rw [hdat] at z; cases z; exact h2⟩, hdat, h1, ?_, rfl, I1.bare, raises_own T.exC T.tyC, q1 d (I1.hok.fresh M.dbig)⟩
    · by_cases hb : b = e
      · have q' : G'.get? b = some o := q
        rw [hb, ge] at q'; cases q'
      · exact (gk b hb).symm.trans q
    · rw [upd_ne (Ne.symm M.dne)]
      exact I1.hok.fresh M.new
end
end L2
namespace Vb
open PySem PySem.Spec PyProof.Rows L2
section
variable {P : Program} {w : World} {K : PySem.W.Frag} {mg : Str → Option Value} {base : Heap}
/-- a def that may raise, its exceptions' context told -/
theorem okN {x qual : Str} {st : Stmt} {f : Addr} {fd : FuncData} {N ps : List Str} {k : Nat} {sp : Sp} (F : Fun K x qual st f fd) (S : FnScope N ps (defScope st)) (len : ∀ vs H Q E, sp vs H Q E → vs.length = ps.length)
    (hbody : ∀ (cdv : Value) (A : Around) (outer : List Env) (s : Shared) (H : Hp) (vs : List V) (Q : VK) (E : XK), Room k (A.deeper (envOfC qual (defScope st) s.heap.objs.size f cdv)) → sp vs H Q E →
      ∃ t, PSs (cxOf (L2N.CX P w) P w K mg base N qual (defScope st) f cdv A outer s H E) (defBody st) t ∧ t (Ends.mk (fun _ H' => Q .non H') Q (fun _ _ => False) (fun _ _ => False)) (start N vs) H) : FnOk P w K mg base (L2N.CX P w) (k + 1) f fd ps sp := by
  obtain ⟨oc, od, kV, doc, pm, an, cdv, ct, osl, rfl, lk, hcd⟩ := F.ex
  exact fn_of lk hcd S len fun A outer s H vs Q E hr hsp => hbody cdv A outer s H vs Q E hr hsp
/-- the same, called while an exception is handled -/
theorem okH {x qual : Str} {st : Stmt} {f : Addr} {fd : FuncData} {N ps : List Str} {k : Nat} {sp : Sp} (F : Fun K x qual st f fd) (S : FnScope N ps (defScope st)) (len : ∀ vs H Q E, sp vs H Q E → vs.length = ps.length)
    (hbody : ∀ (cdv : Value) (A : Around) (outer : List Env) (s : Shared) (H : Hp) (vs : List V) (Q : VK) (E : XK) (p : Addr × Obj), L2H.Hot1 A p → L2H.RoomH k (A.deeper (envOfC qual (defScope st) s.heap.objs.size f cdv)) → sp vs H Q E →
      ∃ t, PSs (L2H.cxH CX0 P w K mg base N qual (defScope st) f cdv A outer s H E p) (defBody st) t ∧ t (Ends.mk (fun _ H' => Q .non H') Q (fun _ _ => False) (fun _ _ => False)) (start N vs) H) : L2H.FnH P w K mg base CX0 (k + 1) f fd ps sp := by
  obtain ⟨oc, od, kV, doc, pm, an, cdv, ct, osl, rfl, lk, hcd⟩ := F.ex
  exact L2H.fn_ofH lk hcd S len fun A outer s H vs Q E p hot hr hsp => hbody cdv A outer s H vs Q E p hot hr hsp
/-- a def of the text, by its name -/
structure Dn (K : PySem.W.Frag) (mg : Str → Option Value) (x : Str) (st : Stmt) (ps : List Str) (f : Addr) (fd : FuncData) : Prop where
  F : Fun K x x st f fd
  g : mg x = some (.ref f)
  b : Binds K fd ps []
/-- an own error's class without an __init__ -/
structure Xn (K : PySem.W.Frag) (mg : Str → Option Value) (x : Str) (C : Addr) : Prop where
  g : mg x = some (.ref C)
  q : PySem.W.excIn K C [.type "ValueError", .type "Exception", .type "BaseException", .type "object"] "ValueError.__new__" = true
  kC : PySem.W.keepIn K (.ref C) = true
  exC : PySem.W.subIn K (.ref C) (.type "BaseException") = some true
  tyC : PySem.W.typeIn K (.ref C) = some (.type "type")
/-- what isinstance asks of a caught error's class -/
structure Xk (K : PySem.W.Frag) (C : Addr) : Prop where
  cl : PySem.W.isClsIn K C = true
  ga : PySem.W.findIn K (.ref C) "__getattribute__" = some (some (.builtin "BaseException.__getattribute__"))
  gg : PySem.W.findIn K (.ref C) "__getattr__" = some none
  sb : PySem.W.subIn K (.ref C) (.type "BaseException") = some true
  ca : PySem.W.findIn K (.ref C) "__class__" = some (some (.builtin "object.__class__"))
  sp : PySem.W.specialIn K (.builtin "object.__class__") "__get__" = some (some (.builtin "getset_descriptor.__get__"))
  tk : PySem.W.takesIn K (.builtin "object.__class__") = some true
  mo : PySem.W.mroIn K C (.type "object") = some true
  hd : PySem.W.hasDictIn K C = true
  ss : PySem.W.subIn K (.ref C) (.ref C) = some true
  ty : PySem.W.typeIn K (.ref C) = some (.type "type")
theorem Xk.ex {C : Addr} (k : Xk K C) : PySem.W.exmOne K (.ref C) (.ref C) = some true := PySem.W.exm_ref k.sb k.hd k.ty k.ss
theorem Xk.xf {C : Addr} (k : Xk K C) : XfC K C := ⟨k.ga, k.gg, k.sb, k.hd⟩
theorem kit_yes {D C : Addr} (h1 : PySem.W.isClsIn K C = true) (h2 : PySem.W.typeIn K (.ref C) = some (.type "type")) (h3 : PySem.W.subIn K (.ref D) (.ref C) = some true) : PySem.W.kitOne K (.ref D) (.ref C) = some true := by
  have h1' : (PySem.W.clsIn K C).isSome = true := h1
  unfold PySem.W.kitOne
  split
  · rfl
  · show (if ((PySem.W.clsIn K C).isSome && PySem.W.typeIn K (.ref C) == some (.type "type")) = true then PySem.W.subIn K (.ref D) (.ref C) else none) = _
    rw [h1', h2, if_pos (by decide)]
    exact h3
theorem kit_no {D C : Addr} (h1 : PySem.W.isClsIn K C = true) (h2 : PySem.W.typeIn K (.ref C) = some (.type "type")) (h3 : PySem.W.subIn K (.ref D) (.ref C) = some false) (ne : D ≠ C) : PySem.W.kitOne K (.ref D) (.ref C) = some false := by
  have h1' : (PySem.W.clsIn K C).isSome = true := h1
  unfold PySem.W.kitOne
  split
  · rename_i h
    have e := beq_iff_eq.mp h
    cases e
    exact absurd rfl ne
  · show (if ((PySem.W.clsIn K C).isSome && PySem.W.typeIn K (.ref C) == some (.type "type")) = true then PySem.W.subIn K (.ref D) (.ref C) else none) = _
    rw [h1', h2, if_pos (by decide)]
    exact h3
theorem kit_blt {D : Addr} {T : String} {b : Bool} (h1 : PySem.W.kitMeta T = true) (h3 : PySem.W.subIn K (.ref D) (.type T) = some b) : PySem.W.kitOne K (.ref D) (.type T) = some b := by
  unfold PySem.W.kitOne
  rw [if_neg (by intro h; cases beq_iff_eq.mp h)]
  show (if PySem.W.kitMeta T = true then PySem.W.subIn K (.ref D) (.type T) else none) = _
  rw [h1, if_pos rfl]
  exact h3
end
theorem pass5 {X : Cx} : Passes (L2N.CX X.prog X.w) X E0 := fun _ _ _ _ _ _ _ h => by
  obtain ⟨_, _, _, _, _, _, _, _, _, _, _, _, z⟩ := h
  exact z.elim
theorem roomH_mark {k : Nat} {A : Around} (r : Room k A) (h : Option Value) : L2H.RoomH k (A.mark h) := ⟨r.dp, r.un⟩
theorem passH {X : Cx} {σ : L2.St} : PassesAt CX0 X σ E0 := fun _ _ _ _ _ _ h => h.elim
theorem takesF {X : Cx} : L2N.Takes X (fun _ _ _ _ => False) := fun _ _ x => by
  obtain ⟨_, _, _, _, _, _, _, _, _, _, _, _, _, _, _, _, z⟩ := x
  exact z.elim
section
variable {X : Cx}
theorem hotN {a : Addr} {oe : Obj} {cls : Value} {d : Option Addr} {pn : List (Addr × Obj)} (hz : L2N.Zn cls d oe) (hf : ∃ vs, oe.data = .fields vs) : L2H.HotC (X.suite a ((a, oe) :: pn)) := by
  obtain ⟨vs, e⟩ := hf
  exact ⟨(a, oe), ⟨rfl, vs, e, hz.2.2 vs e⟩, List.mem_cons_self⟩
/-- X() of such a class -/
theorem pmk0 {x : Str} {C : Addr} {p pos : Pos} (T : Xn X.K X.mg x C) (hg : Gl X x) (hdb : (x == ("__debug__" : Str)) = false := by decide) : L2N.PMk X (.Call (.Name x p) [] [] pos) (fun _ H Q => Q (.ref C) none H) := by
  intro pins s σ H Q I h
  refine wpAny_Call_Name_kw (ld_glob I hg T.g ?_ hdb)
  refine PySem.W.callWith_K0 I.kIn T.kC ?_
  obtain ⟨bm, N, nm, qn, bs, hdct, sn, sub, ab, col, dd, k0, k1, k2, k3, k5, mN, hC, hN, hni, T5⟩ := exc_obj I.kIn T.q
  refine wpAny_call_exc_subT PySem.F.excBase_ValueError T5 hC hN hni (fun h' e hm => ?_) (Nat.zero_le _)
  exact L2N.mk_of I hm (raises_own T.exC T.tyC) h (I.hok.gone hm.new)
/-- isinstance(e, c), e the caught error: its class D, its own dict d -/
def rIsX (K : PySem.W.Frag) (D a : Addr) (cls : Value) (d : Option Addr) : List V → Hp → VK → Prop := fun xs H Q => ∃ (c : V) (cv : Value) (b : Bool), xs = [.ref a, c] ∧ cls = .ref D ∧ (∀ u, RelV c u → u = cv) ∧ PySem.W.kitOne K (.ref D) cv = some b ∧ (d = none ∨ ∃ dd fs, d = some dd ∧ H dd = some (.xd fs)) ∧ Q (.bl b) H
theorem call_isX {a D : Addr} {oe : Obj} {cls : Value} {d : Option Addr} {pn : List (Addr × Obj)} (C : Xk X.K D) (hz : L2N.Zn cls d oe) (hf : ∃ vs, oe.data = .fields vs) : CallR (X.suite a ((a, oe) :: pn)) (.builtin "isinstance") (rIsX X.K D a cls d) := by
  intro pins s σ H xs us Q I r h
  obtain ⟨c, cv, b, rfl, ec, hcv, e, hd, q⟩ := h
  obtain ⟨u1, u2, rfl, r1, r2⟩ := vals2 r
  cases (show u1 = Value.ref a from r1)
  have e2 := hcv _ r2
  subst e2
  obtain ⟨hget, _⟩ := I.pin (a, oe) (List.mem_append.mpr (.inl List.mem_cons_self))
  obtain ⟨vs, hv⟩ := hf
  have J : ∃ od, PySem.W.InstAt s.heap a oe D od := by
    rcases hd with hd | ⟨dd, fs, hd, ho⟩
    · refine ⟨none, hget, hz.1.trans ec, by unfold PySem.W.notCls; rw [hv] <;> rfl, ?_⟩
      rw [hz.2.1, hd]
      trivial
    · have hx : ObjOk X.prog X.w H s.heap dd (.xd fs) := I.hok dd _ ho
      obtain ⟨mA, hns, _⟩ := hx
      obtain ⟨od, ho, _⟩ := lookIn_ns hns
      refine ⟨some od, hget, hz.1.trans ec, by unfold PySem.W.notCls; rw [hv] <;> rfl, ?_⟩
      rw [hz.2.1, hd]
      exact ho
  obtain ⟨od, J⟩ := J
  exact PySem.W.kia_one (PySem.W.kitx_exc C.cl C.ga C.gg C.sb C.ca C.sp C.tk C.mo) I.kIn J e (fun z => nomatch z) fun tk => ⟨.bl b, H, I.kept (t' := tk) fun _ _ z => z, rfl, q⟩
/-- a power of a greater number -/
def CPowB (i j : Int) : Prop := 0 ≤ j ∧ (PySem.Builtin.Int.intBits i : Int) * j ≤ 2 ^ 27
theorem op_powB : OpR X (binaryOp .Pow) (rI CPowB fun i j => .int (i ^ j.toNat)) := opI fun _ _ _ _ _ _ _ hc q => PyProof.Rows.pow_int hc.1 hc.2 q
end

/-! ### a reading, step by step -/
section
variable {K : PySem.W.Frag} {σ : L2.St} {H : Hp} {Q : VK} {QT : Bool → Hp → Prop} {QA : List V → Hp → Prop} {ta tb te tc : TE} {t u : TT} {ts tu tw : TS} {x y v : V} {r r' : R2} {nx bk ct : L2.St → Hp → Prop} {rt : VK} {i j : Nat}
theorem r_var (h : σ[i]? = some (some v)) (q : Q v H) : tVar i σ H Q := ⟨v, h, q⟩
theorem r_c (q : Q v H) : tC v σ H Q := q
theorem r_op (h : ta σ H fun x H1 => tb σ H1 fun y H2 => r x y H2 Q) : tOp r ta tb σ H Q := h
theorem r_un {ru : V → Hp → VK → Prop} (h : ta σ H fun x H1 => ru x H1 Q) : tUn ru ta σ H Q := h
theorem r_I0 {g : Int → Int → V} {a b : Int} (q : Q (g a b) H) : rI0 g (.int a) (.int b) H Q := ⟨a, b, rfl, rfl, q⟩
theorem r_I {C : Int → Int → Prop} {g : Int → Int → V} {a b : Int} (c : C a b) (q : Q (g a b) H) : rI C g (.int a) (.int b) H Q := ⟨a, b, rfl, rfl, c, q⟩
theorem r_U {g : Int → V} {a : Int} (q : Q (g a) H) : rU g (.int a) H Q := ⟨a, rfl, q⟩
theorem r_eqI {a b : Int} (q : Q (.bl (decide (a = b))) H) : rEq (.int a) (.int b) H Q := ⟨rfl, by
  have e : decide (V.int a = V.int b) = decide (a = b) := by
    by_cases h : a = b
    · rw [decide_eq_true h, decide_eq_true (congrArg V.int h)]
    · rw [decide_eq_false h, decide_eq_false (fun z => h (V.int.inj z))]
  rw [e]
  exact q⟩
theorem r_neI {a b : Int} (q : Q (.bl (!decide (a = b))) H) : rNe (.int a) (.int b) H Q := ⟨rfl, by
  have e : decide (V.int a = V.int b) = decide (a = b) := by
    by_cases h : a = b
    · rw [decide_eq_true h, decide_eq_true (congrArg V.int h)]
    · rw [decide_eq_false h, decide_eq_false (fun z => h (V.int.inj z))]
  rw [e]
  exact q⟩
theorem r_test (h : te σ H fun x H' => ∃ k, x = .bl k ∧ QT k H') : tTest te σ H QT := h
theorem r_tB (h : te σ H fun x H' => ∃ k, x = .bl k ∧ QT k H') : tB te σ H QT := h
theorem r_bl {k : Bool} {C : Bool → Prop} (q : C k) : ∃ k', V.bl k = .bl k' ∧ C k' := ⟨k, rfl, q⟩
theorem r_and (h : t σ H fun c H1 => if c = true then u σ H1 QT else QT false H1) : tAnd t u σ H QT := h
theorem r_or (h : t σ H fun c H1 => if c = true then QT true H1 else u σ H1 QT) : tOr t u σ H QT := h
theorem r_not (h : t σ H fun c H1 => QT (!c) H1) : tNot t σ H QT := h
theorem r_andV (h : ta σ H fun x H1 => ∃ c, x = .bl c ∧ if c = true then tb σ H1 Q else Q (.bl false) H1) : tAndV ta tb σ H Q := h
theorem r_orV (h : ta σ H fun x H1 => ∃ c, x = .bl c ∧ if c = true then Q (.bl true) H1 else tb σ H1 Q) : tOrV ta tb σ H Q := h
theorem r_notV (h : ta σ H fun x H1 => ∃ c, x = .bl c ∧ Q (.bl (!c)) H1) : tNotV ta σ H Q := h
theorem r_if (h : t σ H fun c H1 => if c = true then ta σ H1 Q else tb σ H1 Q) : tIf t ta tb σ H Q := h
theorem r_chain (h : ta σ H fun x H1 => tb σ H1 fun y H2 => r x y H2 fun z H3 => ∃ k, z = .bl k ∧ (if k = true then tc σ H3 fun w H4 => r' y w H4 Q else Q (.bl false) H3)) : tChain r r' ta tb tc σ H Q := h
theorem r_ite {C : Prop} [Decidable C] {A B : Prop} (h1 : C → A) (h2 : ¬ C → B) : if decide C = true then A else B := by
  by_cases h : C
  · rw [if_pos (decide_eq_true h)]; exact h1 h
  · rw [if_neg (by rw [decide_eq_false h]; decide)]; exact h2 h
theorem r_iteN {C : Prop} [Decidable C] {A B : Prop} (h1 : ¬ C → A) (h2 : C → B) : if (!decide C) = true then A else B := by
  by_cases h : C
  · rw [if_neg (by rw [decide_eq_true h]; decide)]; exact h2 h
  · rw [if_pos (by rw [decide_eq_false h]; decide)]; exact h1 h
theorem r_iteb {b : Bool} {A B : Prop} (h1 : b = true → A) (h2 : b = false → B) : if b = true then A else B := by
  cases b with
  | true => rw [if_pos rfl]; exact h1 rfl
  | false => rw [if_neg (by decide)]; exact h2 rfl
theorem r_iteNb {b : Bool} {A B : Prop} (h1 : b = false → A) (h2 : b = true → B) : if (!b) = true then A else B := by
  cases b with
  | true => rw [if_neg (by decide)]; exact h2 rfl
  | false => rw [if_pos (by decide)]; exact h1 rfl
theorem r_iteT {A B : Prop} (h : A) : if true = true then A else B := by rw [if_pos rfl]; exact h
theorem r_iteF {A B : Prop} (h : B) : if false = true then A else B := by rw [if_neg (by decide)]; exact h
theorem r_iteNT {A B : Prop} (h : B) : if (!true) = true then A else B := by rw [if_neg (by decide)]; exact h
theorem r_iteNF {A B : Prop} (h : A) : if (!false) = true then A else B := by rw [if_pos (by decide)]; exact h
-- arguments, displays
theorem r_nil (q : QA [] H) : tNil σ H QA := q
theorem r_cons {tr : TA} (h : te σ H fun x H1 => tr σ H1 fun xs H2 => QA (x :: xs) H2) : tCons te tr σ H QA := h
theorem r_tup {t : TA} (h : t σ H fun xs H1 => xs.length ≤ sizeLine ∧ ∀ p, H1 p = none → Q (.ref p) (upd H1 p (.tup xs))) : tTup t σ H Q := h
theorem r_lst {t : TA} (h : t σ H fun xs H1 => xs.length ≤ sizeLine ∧ ∀ p, H1 p = none → Q (.ref p) (upd H1 p (.lst xs))) : tLst t σ H Q := h
theorem r_CB {r : List V → Hp → VK → Prop} {t : TA} (h : t σ H fun vs H1 => r vs H1 Q) : tCB r t σ H Q := h
theorem r_callS {sp : Sp} {E : L2.St → XK} {t : TA} (h : t σ H fun vs H1 => sp vs H1 Q (E σ)) : tCallS sp E t σ H Q := h
theorem r_call {sp : Sp} {E : XK} {t : TA} (h : t σ H fun vs H1 => sp vs H1 Q E) : tCall sp [] E t σ H Q := by
  show t σ H fun vs H1 => sp (vs ++ []) H1 Q E
  have e : (fun (vs : List V) (H1 : Hp) => sp (vs ++ []) H1 Q E) = fun vs H1 => sp vs H1 Q E := by
    funext vs H1
    rw [List.append_nil]
  rw [e]
  exact h
def rAbs : List V → Hp → VK → Prop := fun xs H Q => ∃ i, xs = [.int i] ∧ Q (.int (if i < 0 then -i else i)) H
theorem r_abs {a : Int} (q : Q (.int (if a < 0 then -a else a)) H) : rAbs [.int a] H Q := ⟨a, rfl, q⟩
def rMax2 : List V → Hp → VK → Prop := fun xs H Q => ∃ i j, xs = [.int i, .int j] ∧ Q (.int (if j > i then j else i)) H
theorem r_max2 {a b : Int} (q : Q (.int (if b > a then b else a)) H) : rMax2 [.int a, .int b] H Q := ⟨a, b, rfl, q⟩
def rMin2 : List V → Hp → VK → Prop := fun xs H Q => ∃ i j, xs = [.int i, .int j] ∧ Q (.int (if j < i then j else i)) H
theorem r_min2 {a b : Int} (q : Q (.int (if b < a then b else a)) H) : rMin2 [.int a, .int b] H Q := ⟨a, b, rfl, q⟩
def rInt : List V → Hp → VK → Prop := fun xs H Q => (∃ i, xs = [.int i] ∧ Q (.int i) H) ∨ ∃ k, xs = [.bl k] ∧ Q (.int (if k then 1 else 0)) H
theorem r_int {a : Int} (q : Q (.int a) H) : rInt [.int a] H Q := .inl ⟨a, rfl, q⟩
theorem r_intB {b : Bool} (q : Q (.int (if b then 1 else 0)) H) : rInt [.bl b] H Q := .inr ⟨b, rfl, q⟩
def rLenS (K : PySem.W.Frag) : List V → Hp → VK → Prop := fun xs H Q => ∃ p ys, xs = [.ref p] ∧ (SqL K H p ys ∨ SqT K H p ys) ∧ Q (.int ys.length) H
theorem r_len {a : Addr} {xs : List V} (h : SqL K H a xs) (q : Q (.int xs.length) H) : rLenS K [.ref a] H Q := ⟨a, xs, rfl, .inl h, q⟩
theorem r_lenT {a : Addr} {xs : List V} (h : SqT K H a xs) (q : Q (.int xs.length) H) : rLenS K [.ref a] H Q := ⟨a, xs, rfl, .inr h, q⟩
def rList (K : PySem.W.Frag) : List V → Hp → VK → Prop := fun xs H Q => ∃ p ys, xs = [.ref p] ∧ (SqL K H p ys ∨ SqT K H p ys) ∧ ∀ l, H l = none → Q (.ref l) (upd H l (.lst ys))
theorem r_list {a : Addr} {xs : List V} (h : SqL K H a xs) (q : ∀ l, H l = none → Q (.ref l) (upd H l (.lst xs))) : rList K [.ref a] H Q := ⟨a, xs, rfl, .inl h, q⟩
theorem r_ixL {a : Addr} {xs : List V} {z : Int} (h : SqL K H a xs) (e : atI xs z = some v) (q : Q v H) : rIxL K (.ref a) (.int z) H Q := ⟨a, xs, z, v, rfl, rfl, h, e, q⟩
theorem r_ixT {a : Addr} {xs : List V} {z : Int} (h : SqT K H a xs) (e : atI xs z = some v) (q : Q v H) : rIxT K (.ref a) (.int z) H Q := ⟨a, xs, z, v, rfl, rfl, h, e, q⟩
theorem r_setL {a : Addr} {xs : List V} {z : Int} {k : Nat} {C : Hp → Prop} (h : H a = some (.lst xs)) (e : ixN xs.length z = some k) (q : C (upd H a (.lst (xs.set k v)))) : rSetL (.ref a) (.int z) v H C := ⟨a, xs, z, k, rfl, rfl, h, e, q⟩
theorem r_BM0 {T : String} {r : V → List V → Hp → VK → Prop} {to : TE} (h : to σ H fun x H1 => tyV K T x H1 ∧ r x [] H1 Q) : tBM0 K T r to σ H Q := h
theorem r_rev {a : Addr} {xs : List V} (h : H a = some (.lst xs)) (q : Q .non (upd H a (.lst xs.reverse))) : rReverse (.ref a) [] H Q := ⟨a, xs, rfl, rfl, h, q⟩
theorem r_BM {T : String} {r : V → List V → Hp → VK → Prop} {to : TE} {t : TA} (h : to σ H fun x H1 => tyV K T x H1 ∧ t σ H1 fun xs H2 => r x xs H2 Q) : tBM K T r to t σ H Q := h
theorem r_app {a : Addr} {xs : List V} (h : H a = some (.lst xs)) (l : xs.length < sizeLine) (q : Q .non (upd H a (.lst (xs ++ [v])))) : rAppend (.ref a) [v] H Q := ⟨a, xs, v, rfl, rfl, h, l, q⟩
theorem tyL {a : Addr} {xs : List V} (h : H a = some (.lst xs)) : tyV K "list" (.ref a) H := .inl ⟨rfl, _, .inl (.inl h)⟩
theorem r_ty {a : Addr} {xs : List V} {B : Prop} (h : H a = some (.lst xs)) (q : B) : tyV K "list" (.ref a) H ∧ B := ⟨tyL h, q⟩
-- statements, something behind
theorem r_seq_set (h : te σ H fun x H1 => tu (Ends.mk nx rt bk ct) (σ.set i (some x)) H1) : tSeq (tAsg te (gName i)) tu (Ends.mk nx rt bk ct) σ H := h
theorem r_seq_sub {to ti : TE} {tt : TSet} (h : te σ H fun x H1 => to σ H1 fun o H2 => ti σ H2 fun k H3 => tt o k x H3 fun H4 => tu (Ends.mk nx rt bk ct) σ H4) : tSeq (tAsg te (gSub to ti tt)) tu (Ends.mk nx rt bk ct) σ H := h
theorem r_seq_when (h : t σ H fun b H1 => if b = true then ts (Ends.mk (tu (Ends.mk nx rt bk ct)) rt bk ct) σ H1 else tu (Ends.mk nx rt bk ct) σ H1) : tSeq (tIfS t ts tNext) tu (Ends.mk nx rt bk ct) σ H := h
theorem r_seq_if (h : t σ H fun b H1 => if b = true then ts (Ends.mk (tu (Ends.mk nx rt bk ct)) rt bk ct) σ H1 else tw (Ends.mk (tu (Ends.mk nx rt bk ct)) rt bk ct) σ H1) : tSeq (tIfS t ts tw) tu (Ends.mk nx rt bk ct) σ H := h
theorem r_seq_drop (h : te σ H fun _ H1 => tu (Ends.mk nx rt bk ct) σ H1) : tSeq (tDrop te) tu (Ends.mk nx rt bk ct) σ H := h
theorem r_seq (h : ts (Ends.mk (tu (Ends.mk nx rt bk ct)) rt bk ct) σ H) : tSeq ts tu (Ends.mk nx rt bk ct) σ H := h
-- the last one
theorem r_set (h : te σ H fun x H1 => nx (σ.set i (some x)) H1) : tAsg te (gName i) (Ends.mk nx rt bk ct) σ H := h
theorem r_sub {to ti : TE} {tt : TSet} (h : te σ H fun x H1 => to σ H1 fun o H2 => ti σ H2 fun k H3 => tt o k x H3 fun H4 => nx σ H4) : tAsg te (gSub to ti tt) (Ends.mk nx rt bk ct) σ H := h
theorem r_when (h : t σ H fun b H1 => if b = true then ts (Ends.mk nx rt bk ct) σ H1 else nx σ H1) : tIfS t ts tNext (Ends.mk nx rt bk ct) σ H := h
theorem r_ifs (h : t σ H fun b H1 => if b = true then ts (Ends.mk nx rt bk ct) σ H1 else tw (Ends.mk nx rt bk ct) σ H1) : tIfS t ts tw (Ends.mk nx rt bk ct) σ H := h
theorem r_drop (h : te σ H fun _ H1 => nx σ H1) : tDrop te (Ends.mk nx rt bk ct) σ H := h
theorem r_ret (h : te σ H rt) : tRet te (Ends.mk nx rt bk ct) σ H := h
theorem r_brk (h : bk σ H) : tBreak (Ends.mk nx rt bk ct) σ H := h
theorem r_cnt (h : ct σ H) : tCont (Ends.mk nx rt bk ct) σ H := h
theorem r_nxt (h : nx σ H) : tNext (Ends.mk nx rt bk ct) σ H := h
-- loops
def ForW (J : It) (g : TG) (tb : TS) (nx : L2.St → Hp → Prop) (rt : VK) (σ : L2.St) (H : Hp) : Prop := ∃ W : Nat → Nat → L2.St → Hp → Prop, (∃ m, W 0 m σ H) ∧ ∀ i m σ H, W i m σ H →
  (J.stop i H ∧ nx σ H) ∨ (J.go i H ∧ ∃ N : L2.St → Hp → Prop, (∀ σ' H', N σ' H' → ∃ m', m' < m ∧ W (i + 1) m' σ' H') ∧ ∀ x H', J.yld i H x H' → g x σ H' fun σ2 H2 => tb (Ends.mk N rt nx N) σ2 H2)
theorem r_for {wi : TI} {g : TG} (h : wi σ H fun J H1 => ForW J g ts nx rt σ H1) : tFor wi g ts (Ends.mk nx rt bk ct) σ H := h
theorem r_rng1 {ta : TA} {R : It → Hp → Prop} (h : ta σ H fun vs H1 => ∃ j : Int, vs = [.int j] ∧ -(2 ^ 62) ≤ j ∧ j < 2 ^ 62 ∧ R (Itr 0 j.toNat) H1) : iRng1 ta σ H R := h
theorem r_rng2 {ta : TA} {R : It → Hp → Prop} (h : ta σ H fun vs H1 => ∃ i j : Int, vs = [.int i, .int j] ∧ (-(2 ^ 62) ≤ i ∧ i < 2 ^ 62 ∧ -(2 ^ 62) ≤ j ∧ j < 2 ^ 62) ∧ R (Itr i (j - i).toNat) H1) : iRng2 ta σ H R := h
theorem r_iList {tl : TE} {R : It → Hp → Prop} (h : tl σ H fun x H1 => ∃ a, x = .ref a ∧ (∃ xs, SqL K H1 a xs) ∧ R (Itl K a) H1) : iList K tl σ H R := h
theorem f_rng1 {n : Int} {g : TG} (b1 : -(2 ^ 62) ≤ n) (b2 : n < 2 ^ 62) (q : ForW (Itr 0 n.toNat) g ts nx rt σ H) : ∃ j : Int, [V.int n] = [.int j] ∧ -(2 ^ 62) ≤ j ∧ j < 2 ^ 62 ∧ ForW (Itr 0 j.toNat) g ts nx rt σ H := ⟨n, rfl, b1, b2, q⟩
theorem f_rng2 {lo hi : Int} {g : TG} (b : -(2 ^ 62) ≤ lo ∧ lo < 2 ^ 62 ∧ -(2 ^ 62) ≤ hi ∧ hi < 2 ^ 62) (q : ForW (Itr lo (hi - lo).toNat) g ts nx rt σ H) : ∃ i j : Int, [V.int lo, V.int hi] = [.int i, .int j] ∧ (-(2 ^ 62) ≤ i ∧ i < 2 ^ 62 ∧ -(2 ^ 62) ≤ j ∧ j < 2 ^ 62) ∧ ForW (Itr i (j - i).toNat) g ts nx rt σ H := ⟨lo, hi, rfl, b, q⟩
theorem f_rng3 {i j c : Int} {n : Nat} {g : TG} (b : RgC i j c n) (q : ForW (Itc i c n) g ts nx rt σ H) : ∃ (i' j' c' : Int) (n' : Nat), [V.int i, V.int j, V.int c] = [.int i', .int j', .int c'] ∧ RgC i' j' c' n' ∧ ForW (Itc i' c' n') g ts nx rt σ H := ⟨i, j, c, n, rfl, b, q⟩
theorem f_list {a : Addr} {xs : List V} {g : TG} (h : SqL K H a xs) (q : ForW (Itl K a) g ts nx rt σ H) : ∃ b, V.ref a = .ref b ∧ (∃ xs, SqL K H b xs) ∧ ForW (Itl K b) g ts nx rt σ H := ⟨a, rfl, ⟨xs, h⟩, q⟩
theorem f_tup {a : Addr} {xs : List V} {g : TG} (h : SqT K H a xs) (q : ForW (Itt K a) g ts nx rt σ H) : ∃ b, V.ref a = .ref b ∧ (∃ xs, SqT K H b xs) ∧ ForW (Itt K b) g ts nx rt σ H := ⟨a, rfl, ⟨xs, h⟩, q⟩
theorem lp_range {lo : Int} {n : Nat} {g : TG} (Pv : Nat → L2.St → Hp → Prop) (h0 : Pv 0 σ H) (hs : ∀ i σ H, i < n → Pv i σ H → g (.int (lo + i)) σ H fun σ2 H2 => ts (Ends.mk (Pv (i + 1)) rt nx (Pv (i + 1))) σ2 H2) (hd : ∀ σ H, Pv n σ H → nx σ H) : ForW (Itr lo n) g ts nx rt σ H :=
  for_range (D := Ends.mk nx rt nx nx) Pv h0 hs hd
theorem lp_list {a : Addr} {xs : List V} {g : TG} (Pv : Nat → L2.St → Hp → Prop) (h0 : Pv 0 σ H) (hl : ∀ i σ H, i ≤ xs.length → Pv i σ H → SqL K H a xs)
    (hs : ∀ i x σ H, xs[i]? = some x → Pv i σ H → g x σ H fun σ2 H2 => ts (Ends.mk (Pv (i + 1)) rt nx (Pv (i + 1))) σ2 H2) (hd : ∀ σ H, Pv xs.length σ H → nx σ H) : ForW (Itl K a) g ts nx rt σ H :=
  for_list (D := Ends.mk nx rt nx nx) Pv h0 hl hs hd
theorem r_gName {C : L2.St → Hp → Prop} (h : C (σ.set i (some v)) H) : gName i v σ H C := h
/-- a turn's body, from measure m -/
def WhB (W : Nat → L2.St → Hp → Prop) (m : Nat) (tb : TS) (nx : L2.St → Hp → Prop) (rt : VK) (σ : L2.St) (H : Hp) : Prop := ∃ N : L2.St → Hp → Prop, (∀ σ' H', N σ' H' → ∃ m', m' < m ∧ W m' σ' H') ∧ tb (Ends.mk N rt nx N) σ H
theorem wh_body {W : Nat → L2.St → Hp → Prop} {m : Nat} {tb : TS} (h : tb (Ends.mk (fun σ' H' => ∃ m', m' < m ∧ W m' σ' H') rt nx (fun σ' H' => ∃ m', m' < m ∧ W m' σ' H')) σ H) : WhB W m tb nx rt σ H := ⟨_, fun _ _ z => z, h⟩
theorem r_while {tb : TS} (W : Nat → L2.St → Hp → Prop) (m : Nat) (h0 : W m σ H) (hs : ∀ m σ H, W m σ H → t σ H fun b H1 => if b = true then WhB W m tb nx rt σ H1 else nx σ H1) : tWhile t tb (Ends.mk nx rt bk ct) σ H := ⟨W, ⟨m, h0⟩, hs⟩
theorem r_iTup {tl : TE} {R : It → Hp → Prop} (h : tl σ H fun x H1 => ∃ a, x = .ref a ∧ (∃ xs, SqT K H1 a xs) ∧ R (Itt K a) H1) : iTup K tl σ H R := h
theorem lp_tup {a : Addr} {xs : List V} {g : TG} (Pv : Nat → L2.St → Hp → Prop) (h0 : Pv 0 σ H) (hl : ∀ i σ H, i ≤ xs.length → Pv i σ H → SqT K H a xs)
    (hs : ∀ i x σ H, xs[i]? = some x → Pv i σ H → g x σ H fun σ2 H2 => ts (Ends.mk (Pv (i + 1)) rt nx (Pv (i + 1))) σ2 H2) (hd : ∀ σ H, Pv xs.length σ H → nx σ H) : ForW (Itt K a) g ts nx rt σ H :=
  for_tup (D := Ends.mk nx rt nx nx) Pv h0 hl hs hd
theorem lp_rangeC {lo c : Int} {n : Nat} {g : TG} (Pv : Nat → L2.St → Hp → Prop) (h0 : Pv 0 σ H) (hs : ∀ i σ H, i < n → Pv i σ H → g (.int (lo + (i : Nat) * c)) σ H fun σ2 H2 => ts (Ends.mk (Pv (i + 1)) rt nx (Pv (i + 1))) σ2 H2) (hd : ∀ σ H, Pv n σ H → nx σ H) : ForW (Itc lo c n) g ts nx rt σ H :=
  for_rangeC (D := Ends.mk nx rt nx nx) Pv h0 hs hd
theorem r_rng3 {ta : TA} {R : It → Hp → Prop} (h : ta σ H fun vs H1 => ∃ (i j c : Int) (n : Nat), vs = [.int i, .int j, .int c] ∧ RgC i j c n ∧ R (Itc i c n) H1) : iRng3 ta σ H R := h
-- comprehensions
def LcW (J : It) (g : TG) (tt : TT) (te : TE) (vs : List Nat) (σ : L2.St) (H1 : Hp) (D : Addr) (Qd : Hp → Prop) : Prop := ∃ W : Nat → Nat → Hp → Prop, (∃ m, W 0 m (upd H1 D (.lst []))) ∧ ∀ i m H, W i m H →
  (J.stop i H ∧ Qd H) ∨ (J.go i H ∧ ∃ Nx : Hp → Prop, (∀ H', Nx H' → ∃ m', m' < m ∧ W (i + 1) m' H') ∧ ∀ x H', J.yld i H x H' → g x (wipe σ vs) H' fun σ2 H2 => wipe σ2 vs = wipe σ vs ∧ tt σ2 H2 fun b H3 =>
    if b = true then te σ2 H3 fun y H4 => ∃ acc, H4 D = some (.lst acc) ∧ acc.length < sizeLine ∧ Nx (upd H4 D (.lst (acc ++ [y]))) else Nx H3)
theorem r_lc {wi : TI} {g : TG} {tt : TT} {vs : List Nat} (h : wi σ H fun J H1 => ∀ D, H1 D = none → LcW J g tt te vs σ H1 D fun H' => Q (.ref D) H') : tLc wi g tt te vs σ H Q := h
theorem c_rng1 {n : Int} {g : TG} {tt : TT} {vs : List Nat} {σ' : L2.St} {Q' : Addr → Hp → Prop} (b1 : -(2 ^ 62) ≤ n) (b2 : n < 2 ^ 62) (q : ∀ D, H D = none → LcW (Itr 0 n.toNat) g tt te vs σ' H D (Q' D)) : ∃ j : Int, [V.int n] = [.int j] ∧ -(2 ^ 62) ≤ j ∧ j < 2 ^ 62 ∧ ∀ D, H D = none → LcW (Itr 0 j.toNat) g tt te vs σ' H D (Q' D) := ⟨n, rfl, b1, b2, q⟩
theorem c_rng2 {lo hi : Int} {g : TG} {tt : TT} {vs : List Nat} {σ' : L2.St} {Q' : Addr → Hp → Prop} (b : -(2 ^ 62) ≤ lo ∧ lo < 2 ^ 62 ∧ -(2 ^ 62) ≤ hi ∧ hi < 2 ^ 62) (q : ∀ D, H D = none → LcW (Itr lo (hi - lo).toNat) g tt te vs σ' H D (Q' D)) : ∃ i j : Int, [V.int lo, V.int hi] = [.int i, .int j] ∧ (-(2 ^ 62) ≤ i ∧ i < 2 ^ 62 ∧ -(2 ^ 62) ≤ j ∧ j < 2 ^ 62) ∧ ∀ D, H D = none → LcW (Itr i (j - i).toNat) g tt te vs σ' H D (Q' D) := ⟨lo, hi, rfl, b, q⟩
theorem c_list {a : Addr} {xs : List V} {g : TG} {tt : TT} {vs : List Nat} {σ' : L2.St} {Q' : Addr → Hp → Prop} (h : SqL K H a xs) (q : ∀ D, H D = none → LcW (Itl K a) g tt te vs σ' H D (Q' D)) : ∃ b, V.ref a = .ref b ∧ (∃ xs, SqL K H b xs) ∧ ∀ D, H D = none → LcW (Itl K b) g tt te vs σ' H D (Q' D) := ⟨a, rfl, ⟨xs, h⟩, q⟩
theorem c_tup {a : Addr} {xs : List V} {g : TG} {tt : TT} {vs : List Nat} {σ' : L2.St} {Q' : Addr → Hp → Prop} (h : SqT K H a xs) (q : ∀ D, H D = none → LcW (Itt K a) g tt te vs σ' H D (Q' D)) : ∃ b, V.ref a = .ref b ∧ (∃ xs, SqT K H b xs) ∧ ∀ D, H D = none → LcW (Itt K b) g tt te vs σ' H D (Q' D) := ⟨a, rfl, ⟨xs, h⟩, q⟩
/-- a turn of a comprehension over a name: the test, the item -/
def LcT (tt : TT) (te : TE) (D : Addr) (N : Hp → Prop) (σ : L2.St) (H : Hp) : Prop := tt σ H fun b H3 => if b = true then te σ H3 fun y H4 => ∃ acc, H4 D = some (.lst acc) ∧ acc.length < sizeLine ∧ N (upd H4 D (.lst (acc ++ [y]))) else N H3
theorem lcw_range {lo : Int} {n : Nat} {tt : TT} {vs : List Nat} {H1 : Hp} {D : Addr} {Qd : Hp → Prop} (Pv : Nat → Hp → Prop) (h0 : Pv 0 (upd H1 D (.lst []))) (hw : ∀ x, wipe ((wipe σ vs).set j (some x)) vs = wipe σ vs)
    (hs : ∀ i H, i < n → Pv i H → LcT tt te D (Pv (i + 1)) ((wipe σ vs).set j (some (.int (lo + i)))) H) (hd : ∀ H, Pv n H → Qd H) : LcW (Itr lo n) (gName j) tt te vs σ H1 D Qd :=
  lc_range Pv h0 (fun i H hi p => ⟨hw _, hs i H hi p⟩) hd
theorem lcw_list {a : Addr} {xs : List V} {tt : TT} {vs : List Nat} {H1 : Hp} {D : Addr} {Qd : Hp → Prop} (Pv : Nat → Hp → Prop) (h0 : Pv 0 (upd H1 D (.lst []))) (hw : ∀ x, wipe ((wipe σ vs).set j (some x)) vs = wipe σ vs) (hl : ∀ i H, i ≤ xs.length → Pv i H → SqL K H a xs)
    (hs : ∀ i x H, xs[i]? = some x → Pv i H → LcT tt te D (Pv (i + 1)) ((wipe σ vs).set j (some x)) H) (hd : ∀ H, Pv xs.length H → Qd H) : LcW (Itl K a) (gName j) tt te vs σ H1 D Qd :=
  lc_list Pv h0 hl (fun i x H hi p => ⟨hw _, hs i x H hi p⟩) hd
theorem lcw_tup {a : Addr} {xs : List V} {tt : TT} {vs : List Nat} {H1 : Hp} {D : Addr} {Qd : Hp → Prop} (Pv : Nat → Hp → Prop) (h0 : Pv 0 (upd H1 D (.lst []))) (hw : ∀ x, wipe ((wipe σ vs).set j (some x)) vs = wipe σ vs) (hl : ∀ i H, i ≤ xs.length → Pv i H → SqT K H a xs)
    (hs : ∀ i x H, xs[i]? = some x → Pv i H → LcT tt te D (Pv (i + 1)) ((wipe σ vs).set j (some x)) H) (hd : ∀ H, Pv xs.length H → Qd H) : LcW (Itt K a) (gName j) tt te vs σ H1 D Qd :=
  lc_tup Pv h0 hl (fun i x H hi p => ⟨hw _, hs i x H hi p⟩) hd
theorem lct_yes {D : Addr} {N : Hp → Prop} (h : te σ H fun y H4 => ∃ acc, H4 D = some (.lst acc) ∧ acc.length < sizeLine ∧ N (upd H4 D (.lst (acc ++ [y])))) : LcT tYes te D N σ H := r_iteT (B := N H) h
theorem lct_if {tt : TT} {D : Addr} {N : Hp → Prop} (h : tt σ H fun b H3 => if b = true then te σ H3 fun y H4 => ∃ acc, H4 D = some (.lst acc) ∧ acc.length < sizeLine ∧ N (upd H4 D (.lst (acc ++ [y]))) else N H3) : LcT tt te D N σ H := h
end
section
variable {X : Cx}
theorem call_int : CallR X (.type "int") rInt := call_int1
theorem call_abs : CallR X (.builtin "abs") rAbs := L2.call_abs
theorem call_max2 (hc : X.calm = true) : CallR X (.builtin "max") rMax2 := L2.call_max2 hc
theorem call_min2 (hc : X.calm = true) : CallR X (.builtin "min") rMin2 := L2.call_min2 hc
theorem call_len : CallR X (.builtin "len") (rLenS X.K) := L2.call_len_seq
theorem call_list : CallR X (.type "list") (rList X.K) := L2.call_list_of
def rTup (K : PySem.W.Frag) : List V → Hp → VK → Prop := fun xs H Q => ∃ p ys, xs = [.ref p] ∧ ((SqL K H p ys ∧ ∀ l, H l = none → Q (.ref l) (upd H l (.tup ys))) ∨ (SqT K H p ys ∧ Q (.ref p) H))
theorem call_tuple : CallR X (.type "tuple") (rTup X.K) := L2.call_tuple_of
theorem r_tupL {K : PySem.W.Frag} {H : Hp} {Q : VK} {a : Addr} {xs : List V} (h : SqL K H a xs) (q : ∀ l, H l = none → Q (.ref l) (upd H l (.tup xs))) : rTup K [.ref a] H Q := ⟨a, xs, rfl, .inl ⟨h, q⟩⟩
theorem r_tupT {K : PySem.W.Frag} {H : Hp} {Q : VK} {a : Addr} {xs : List V} (h : SqT K H a xs) (q : Q (.ref a) H) : rTup K [.ref a] H Q := ⟨a, xs, rfl, .inr ⟨h, q⟩⟩
def rBool : List V → Hp → VK → Prop := fun xs H Q => (∃ i, xs = [.int i] ∧ Q (.bl (i != 0)) H) ∨ ∃ k, xs = [.bl k] ∧ Q (.bl k) H
theorem call_bool : CallR X (.type "bool") rBool := L2.call_bool1
theorem r_ixSL {K : PySem.W.Frag} {H : Hp} {Q : VK} {a : Addr} {xs : List V} {z : Int} {v : V} (h : SqL K H a xs) (e : atI xs z = some v) (q : Q v H) : rIx K (.ref a) (.int z) H Q := .inl ⟨a, xs, z, v, rfl, rfl, h, e, q⟩
theorem r_ixST {K : PySem.W.Frag} {H : Hp} {Q : VK} {a : Addr} {xs : List V} {z : Int} {v : V} (h : SqT K H a xs) (e : atI xs z = some v) (q : Q v H) : rIx K (.ref a) (.int z) H Q := .inr (.inl ⟨a, xs, z, v, rfl, rfl, h, e, q⟩)
def rIsN : R2 := fun x y H Q => y = .non ∧ Q (.bl (decide (x = .non))) H
def rNotN : R2 := fun x y H Q => y = .non ∧ Q (.bl (!decide (x = .non))) H
theorem op_isN : OpR X (compareOp .Is) rIsN := L2.op_isN
theorem op_notN : OpR X (compareOp .IsNot) rNotN := L2.op_notN
theorem r_isN {x : V} {H : Hp} {Q : VK} (q : Q (.bl (decide (x = .non))) H) : rIsN x .non H Q := ⟨rfl, q⟩
theorem r_notN {x : V} {H : Hp} {Q : VK} (q : Q (.bl (!decide (x = .non))) H) : rNotN x .non H Q := ⟨rfl, q⟩
end
section
variable {K : PySem.W.Frag} {σ : L2.St} {H : Hp} {Q : VK} {nx bk ct : L2.St → Hp → Prop} {rt : VK} {te : TE}
/-- into an except suite -/
theorem r_as {C : Addr} {d : Option Addr} {i : Nat} {ts : Addr → Value → Option Addr → TS} {Wo : WX} (k : Xk K C) (h : ∀ a, H a = none → ts a (.ref C) d (Ends.mk (fun σ' H' => nx (σ'.set i none) H') rt (fun σ' H' => bk (σ'.set i none) H') (fun σ' H' => ct (σ'.set i none) H')) (σ.set i (some (.ref a))) H) :
    WE (wAs K (.ref C) i ts Wo (Ends.mk nx rt bk ct)) σ (.ref C) d H := ⟨true, k.ex, fun _ => h, fun z => Bool.noConfusion z⟩
theorem r_isXr {D a C : Addr} {d : Option Addr} {b : Bool} (e : PySem.W.kitOne K (.ref D) (.ref C) = some b) (hd : d = none ∨ ∃ dd fs, d = some dd ∧ H dd = some (.xd fs)) (q : Q (.bl b) H) : rIsX K D a (.ref D) d [.ref a, .ref C] H Q := ⟨.ref C, .ref C, b, rfl, rfl, fun _ h => h, e, hd, q⟩
theorem r_isXt {D a : Addr} {n : String} {d : Option Addr} {b : Bool} (e : PySem.W.kitOne K (.ref D) (.type n) = some b) (hd : d = none ∨ ∃ dd fs, d = some dd ∧ H dd = some (.xd fs)) (q : Q (.bl b) H) : rIsX K D a (.ref D) d [.ref a, .ty n] H Q := ⟨.ty n, .type n, b, rfl, rfl, fun _ h => h, e, hd, q⟩
theorem r_xf {a C : Addr} {cls : Value} {d : Option Addr} {f : Str} (h : te σ H fun x H1 => x = .ref a ∧ cls = .ref C ∧ ∃ (dd : Addr) (fs : List (Str × V)) (v : V), d = some dd ∧ H1 dd = some (.xd fs) ∧ fs.lookup f = some v ∧ Q v H1) : tXf a cls d C f te σ H Q := h
theorem r_xfv {a C dd : Addr} {f : Str} {fs : List (Str × V)} {v : V} {R : V → Prop} (h : H dd = some (.xd fs)) (l : fs.lookup f = some v) (q : R v) : V.ref a = .ref a ∧ Value.ref C = .ref C ∧ ∃ (dd' : Addr) (fs : List (Str × V)) (v : V), some dd = some dd' ∧ H dd' = some (.xd fs) ∧ fs.lookup f = some v ∧ R v := ⟨rfl, rfl, dd, fs, v, rfl, h, l, q⟩
end
end Vb
namespace Vb
open PySem PySem.Spec PyProof.Rows L2
/-! ### what stands, carried on -/
theorem h_new {H : Hp} {p q : Addr} {o u : HO} (n : H p = none) (h : H q = some u) : upd H p o q = some u := by
  rw [upd_ne (ne_of_none h n)]
  exact h
theorem h_ne {H : Hp} {p q : Addr} {o u : HO} (n : q ≠ p) (h : H q = some u) : upd H p o q = some u := by
  rw [upd_ne n]
  exact h
theorem h_no {H : Hp} {p q : Addr} {o : HO} (n : q ≠ p) (h : H q = none) : upd H p o q = none := by
  rw [upd_ne n]
  exact h
theorem sq_of {K : PySem.W.Frag} {H : Hp} {a : Addr} {xs : List V} (h : H a = some (.lst xs)) : SqL K H a xs := .inl (.inl h)
theorem st_of {K : PySem.W.Frag} {H : Hp} {a : Addr} {xs : List V} (h : H a = some (.tup xs)) : SqT K H a xs := .inl (.inl h)
theorem same_new {H : Hp} {p : Addr} {o : HO} (n : H p = none) : Same H (upd H p o) := fun _ _ h => h_new n h
/-- an object that H does not know may change -/
theorem same_mut {H H' : Hp} {p : Addr} {o : HO} (e : Same H H') (h : H p = none) : Same H (upd H' p o) := fun a u ha => h_ne (ne_of_none ha h) (e a u ha)
/-- all but st is as it was -/
structure Fr (st : Addr) (H H' : Hp) : Prop where
  k : ∀ b o, b ≠ st → H b = some o → H' b = some o
  hd : ∀ l r, H st = some (.lst (.ref l :: r)) → ∃ r', H' st = some (.lst (.ref l :: r'))
theorem Fr.refl (st : Addr) (H : Hp) : Fr st H H := ⟨fun _ _ _ h => h, fun _ r h => ⟨r, h⟩⟩
theorem Fr.trans {st : Addr} {H H1 H2 : Hp} (a : Fr st H H1) (b : Fr st H1 H2) : Fr st H H2 := ⟨fun c o n h => b.k c o n (a.k c o n h), fun l r h => (a.hd l r h).elim fun r' h' => b.hd l r' h'⟩
theorem Fr.of {st : Addr} {H H' : Hp} (a : Same H H') : Fr st H H' := ⟨fun c o _ h => a c o h, fun _ r h => ⟨r, a _ _ h⟩⟩
theorem Fr.seq {K : PySem.W.Frag} {st : Addr} {H H' : Hp} {a : Addr} {xs : List V} (e : Fr st H H') (n : a ≠ st) (h : SqL K H a xs) : SqL K H' a xs := by
  rcases h with (h | ⟨o, h⟩) | h
  · exact .inl (.inl (e.k _ _ n h))
  · exact .inl (.inr ⟨o, e.k _ _ n h⟩)
  · exact .inr h
theorem Fr.mut {st p : Addr} {H H' : Hp} {o : HO} (e : Fr st H H') (h : H p = none) : Fr st H (upd H' p o) := ⟨fun a u n ha => h_ne (ne_of_none ha h) (e.k a u n ha), fun l r ha => (e.hd l r ha).elim fun r' h' => ⟨r', h_ne (ne_of_none ha h) h'⟩⟩
/-- the law's store at st: what is left of the script, a great number that is being used up, a count, a seed -/
def StoreAt (H : Hp) (st : Addr) : Prop := ∃ (l : Addr) (ns : List Int) (pos rest turn seed : Int), l ≠ st ∧ H st = some (.lst [.ref l, .int pos, .int rest, .int turn, .int seed]) ∧ H l = some (.lst (ns.map V.int)) ∧ 0 ≤ pos ∧ 0 ≤ rest
theorem StoreAt.same {H H' : Hp} {st : Addr} (s : StoreAt H st) (e : Same H H') : StoreAt H' st := by
  obtain ⟨l, ns, a, b, c, d, n, h1, h2, h3⟩ := s
  exact ⟨l, ns, a, b, c, d, n, e _ _ h1, e _ _ h2, h3⟩
theorem StoreAt.ne {H : Hp} {st p : Addr} (s : StoreAt H st) (h : H p = none) : p ≠ st := by
  obtain ⟨l, ns, a, b, c, d, n, h1, _⟩ := s
  exact fun z => by rw [z, h1] at h; cases h
/-- the script's list is not the one that H did not know -/
theorem StoreAt.mut {H H' : Hp} {st p : Addr} {o : HO} (s : StoreAt H st) (n : H p = none) (f : Fr st H H') (s' : StoreAt H' st) : StoreAt (upd H' p o) st := by
  obtain ⟨l, ns, a, b, c, d, n1, h1, h2, h3, h4⟩ := s
  obtain ⟨m, ms, a', b', c', d', m1, g1, g2, g3, g4⟩ := s'
  obtain ⟨r', e⟩ := f.hd _ _ h1
  rw [g1] at e
  cases e
  exact ⟨_, ms, a', b', c', d', m1, h_ne (ne_of_none h1 n) g1, h_ne (ne_of_none h2 n) g2, g3, g4⟩
theorem at_i {xs : List V} {j : Nat} {v : V} (h : xs[j]? = some v) : atI xs (j : Int) = some v := atI_nat h
theorem at_lit {xs : List V} {z : Int} {v : V} (j : Nat) (e : z = (j : Int)) (h : xs[j]? = some v) : atI xs z = some v := by
  rw [e]
  exact atI_nat h
theorem ix_lit {n : Nat} {z : Int} (j : Nat) (e : z = (j : Int)) (h0 : Nat.ble (j + 1) n = true) : ixN n z = some j := by
  have h := Nat.le_of_ble_eq_true h0
  subst e
  unfold ixN
  rw [if_pos (Int.natCast_nonneg j), if_pos (by omega)]
  rfl
theorem getV {ns : List Int} {i : Nat} (h : i < ns.length) : (ns.map V.int)[i]? = some (.int ns[i]) := by
  rw [List.getElem?_map, List.getElem?_eq_getElem h]
  rfl
theorem getV' {ns : List Int} {i : Nat} {x : V} (h : (ns.map V.int)[i]? = some x) : ∃ z, ns[i]? = some z ∧ x = .int z := by
  rw [List.getElem?_map] at h
  cases e : ns[i]? with
  | none => rw [e] at h; cases h
  | some z => rw [e] at h; exact ⟨z, rfl, (Option.some.inj h).symm⟩
theorem size_ok {n : Nat} (h : n ≤ 16777216) : n ≤ sizeLine := by rw [sizeLine_eq]; exact h
theorem size_lt {n : Nat} (h : n < 16777216) : n < sizeLine := by rw [sizeLine_eq]; exact h
end Vb
namespace Vb
open PySem PySem.Spec PyProof.Rows L2
/-! ### data -/
mutual
theorem dp_same {K : PySem.W.Frag} {H H' : Hp} (e : Same H H') : ∀ (d : PyData) (v : V), Dp K H v d → Dp K H' v d
  | .none, _, h => by cases h; exact .non
  | .bool b, _, h => by cases h; exact .bl b
  | .int i, _, h => by cases h; exact .int i
  | .str x, _, h => by cases h; exact .str x
  | .list ds, _, h => by
    cases h with
    | lst hs ha => exact .lst (e.seq hs) (dpa_same e ds _ ha)
  | .tuple ds, _, h => by
    cases h with
    | tup hs ha =>
      refine .tup ?_ (dpa_same e ds _ ha)
      rcases hs with (h | ⟨o, h⟩) | h
      · exact .inl (.inl (e _ _ h))
      · exact .inl (.inr ⟨o, e _ _ h⟩)
      · exact .inr h
  | .dict _, _, h => by cases h
theorem dpa_same {K : PySem.W.Frag} {H H' : Hp} (e : Same H H') : ∀ (ds : List PyData) (vs : List V), DpAll K H vs ds → DpAll K H' vs ds
  | [], _, h => by cases h; exact .nil
  | d :: ds, _, h => by
    cases h with
    | cons h1 h2 => exact .cons (dp_same e d _ h1) (dpa_same e ds _ h2)
end
theorem same_sqt {K : PySem.W.Frag} {H H' : Hp} {a : Addr} {xs : List V} (e : Same H H') (h : SqT K H a xs) : SqT K H' a xs := by
  rcases h with (h | ⟨o, h⟩) | h
  · exact .inl (.inl (e _ _ h))
  · exact .inl (.inr ⟨o, e _ _ h⟩)
  · exact .inr h
theorem dpa_len {K : PySem.W.Frag} {H : Hp} : ∀ {ds : List PyData} {vs : List V}, DpAll K H vs ds → vs.length = ds.length
  | [], _, h => by cases h; rfl
  | d :: ds, _, h => by
    cases h with
    | cons h1 h2 => rw [List.length_cons, List.length_cons, dpa_len h2]
theorem dpa_get {K : PySem.W.Frag} {H : Hp} : ∀ {ds : List PyData} {vs : List V} {i : Nat} {v : V}, DpAll K H vs ds → vs[i]? = some v → ∃ d, ds[i]? = some d ∧ Dp K H v d
  | [], _, i, v, h, e => by cases h; simp at e
  | d :: ds, _, 0, v, h, e => by
    cases h with
    | cons h1 h2 =>
      cases (Option.some.inj e)
      exact ⟨d, rfl, h1⟩
  | d :: ds, _, i + 1, v, h, e => by
    cases h with
    | cons h1 h2 =>
      obtain ⟨x, a, b⟩ := dpa_get (i := i) h2 (by simpa using e)
      exact ⟨x, by simpa using a, b⟩
theorem dpa_at {K : PySem.W.Frag} {H : Hp} : ∀ {ds : List PyData} {vs : List V} {i : Nat} {d : PyData}, DpAll K H vs ds → ds[i]? = some d → ∃ v, vs[i]? = some v ∧ Dp K H v d
  | [], _, i, d, h, e => by simp at e
  | x :: ds, _, 0, d, h, e => by
    cases h with
    | @cons v vs _ _ h1 h2 =>
      cases (Option.some.inj e)
      exact ⟨v, rfl, h1⟩
  | x :: ds, _, i + 1, d, h, e => by
    cases h with
    | cons h1 h2 =>
      obtain ⟨v, a, b⟩ := dpa_at (i := i) h2 (by simpa using e)
      exact ⟨v, by simpa using a, b⟩
theorem dpa_app {K : PySem.W.Frag} {H : Hp} : ∀ {ds es : List PyData} {vs us : List V}, DpAll K H vs ds → DpAll K H us es → DpAll K H (vs ++ us) (ds ++ es)
  | [], _, _, _, h, g => by cases h; exact g
  | d :: ds, es, _, us, h, g => by
    cases h with
    | cons h1 h2 => exact .cons h1 (dpa_app h2 g)
/-- ints as data -/
theorem dpa_ints {K : PySem.W.Frag} {H : Hp} : ∀ ns : List Int, DpAll K H (ns.map V.int) (ns.map PyData.int)
  | [] => .nil
  | n :: ns => .cons (.int n) (dpa_ints ns)
theorem dp_ints {K : PySem.W.Frag} {H : Hp} {a : Addr} {ns : List Int} (h : SqL K H a (ns.map V.int)) : Dp K H (.ref a) (.list (ns.map PyData.int)) := .lst h (dpa_ints ns)
/-- nested less than n deep, no list too long, no dicts -/
def DOk : Nat → PyData → Prop
  | 0, _ => False
  | n + 1, .list ds => ds.length ≤ 1000000 ∧ ∀ d ∈ ds, DOk n d
  | n + 1, .tuple ds => ds.length ≤ 1000000 ∧ ∀ d ∈ ds, DOk n d
  | _ + 1, .dict _ => False
  | _ + 1, _ => True
theorem dok_up : ∀ (n : Nat) (d : PyData), DOk n d → DOk (n + 1) d
  | 0, _, h => h.elim
  | n + 1, .list ds, h => ⟨h.1, fun d m => dok_up n d (h.2 d m)⟩
  | n + 1, .tuple ds, h => ⟨h.1, fun d m => dok_up n d (h.2 d m)⟩
  | n + 1, .dict _, h => h
  | n + 1, .none, _ => trivial
  | n + 1, .bool _, _ => trivial
  | n + 1, .int _, _ => trivial
  | n + 1, .str _, _ => trivial
theorem dok_ints {n : Nat} {ns : List Int} (h : ns.length ≤ 1000000) : DOk (n + 2) (.list (ns.map PyData.int)) := ⟨by rw [List.length_map]; exact h, fun d m => by
  obtain ⟨z, _, rfl⟩ := List.mem_map.mp m
  trivial⟩
/-- the type of a piece of data -/
def tyN : PyData → String
  | .none => "NoneType"
  | .bool _ => "bool"
  | .int _ => "int"
  | .str _ => "str"
  | .list _ => "list"
  | .tuple _ => "tuple"
  | .dict _ => "dict"
theorem dp_ty {K : PySem.W.Frag} {H : Hp} {v : V} {d : PyData} (h : Dp K H v d) : TyX K H v (.type (tyN d)) := by
  cases h with
  | non => exact .base .non
  | bl b => exact .base (.bl b)
  | int i => exact .base (.int i)
  | str x => exact .base (.str x)
  | lst hs _ =>
    rcases hs with (h | ⟨o, h⟩) | h
    · exact .base (.lst h)
    · exact .base (.frz h)
    · obtain ⟨o, its, n, h, c, _⟩ := h
      exact .kList h c
  | tup hs _ =>
    rcases hs with (h | ⟨o, h⟩) | h
    · exact .base (.tup h)
    · exact .fTuple h
    · obtain ⟨o, its, n, h, c, _⟩ := h
      exact .kTuple h c
def isB : PyData → Bool | .bool _ => true | _ => false
def isI : PyData → Bool | .bool _ => true | .int _ => true | _ => false
def isS : PyData → Bool | .str _ => true | _ => false
def isL : PyData → Bool | .list _ => true | _ => false
def isT : PyData → Bool | .tuple _ => true | _ => false
theorem r_isi {K : PySem.W.Frag} {H : Hp} {v : V} {d : PyData} {Q : VK} {n : String} {b : Bool} (h : Dp K H v d) (e : kitB (tyN d) n = some b) (q : Q (.bl b) H) : rIsi K [v, .ty n] H Q := ⟨v, .ty n, _, _, b, rfl, .ty n, dp_ty h, kit_ty e, q⟩
theorem r_isB {K : PySem.W.Frag} {H : Hp} {v : V} {d : PyData} {Q : VK} {b : Bool} (h : Dp K H v d) (e : isB d = b) (q : Q (.bl b) H) : rIsi K [v, .ty "bool"] H Q := r_isi h (by subst e; cases h <;> (simp only [tyN, isB]; decide +kernel)) q
theorem r_isI {K : PySem.W.Frag} {H : Hp} {v : V} {d : PyData} {Q : VK} {b : Bool} (h : Dp K H v d) (e : isI d = b) (q : Q (.bl b) H) : rIsi K [v, .ty "int"] H Q := r_isi h (by subst e; cases h <;> (simp only [tyN, isI]; decide +kernel)) q
theorem r_isS {K : PySem.W.Frag} {H : Hp} {v : V} {d : PyData} {Q : VK} {b : Bool} (h : Dp K H v d) (e : isS d = b) (q : Q (.bl b) H) : rIsi K [v, .ty "str"] H Q := r_isi h (by subst e; cases h <;> (simp only [tyN, isS]; decide +kernel)) q
theorem r_isL {K : PySem.W.Frag} {H : Hp} {v : V} {d : PyData} {Q : VK} {b : Bool} (h : Dp K H v d) (e : isL d = b) (q : Q (.bl b) H) : rIsi K [v, .ty "list"] H Q := r_isi h (by subst e; cases h <;> (simp only [tyN, isL]; decide +kernel)) q
theorem r_isT {K : PySem.W.Frag} {H : Hp} {v : V} {d : PyData} {Q : VK} {b : Bool} (h : Dp K H v d) (e : isT d = b) (q : Q (.bl b) H) : rIsi K [v, .ty "tuple"] H Q := r_isi h (by subst e; cases h <;> (simp only [tyN, isT]; decide +kernel)) q
theorem not_non {K : PySem.W.Frag} {H : Hp} {v : V} {d : PyData} (h : Dp K H v d) (hd : d ≠ .none) : ¬ v = .non := by
  cases h with
  | non => exact absurd rfl hd
  | _ => exact fun c => nomatch c
theorem is_non {K : PySem.W.Frag} {H : Hp} {v : V} (h : Dp K H v .none) : v = .non := by
  cases h
  rfl
/-! ### all but some objects -/
def offs (Z : List Addr) (H : Hp) : Hp := fun b => if b ∈ Z then none else H b
theorem offs_of {Z : List Addr} {H : Hp} {b : Addr} {o : HO} (n : b ∉ Z) (h : H b = some o) : offs Z H b = some o := by
  unfold offs
  rw [if_neg n]
  exact h
theorem offs_some {Z : List Addr} {H : Hp} {b : Addr} {o : HO} (h : offs Z H b = some o) : b ∉ Z ∧ H b = some o := by
  unfold offs at h
  split at h
  · cases h
  · exact ⟨‹_›, h⟩
theorem offs_sub {Z : List Addr} {H : Hp} : Same (offs Z H) H := fun _ _ h => (offs_some h).2
theorem offs_nil {H : Hp} : Same H (offs [] H) := fun _ _ h => offs_of (by simp) h
theorem offs_same {Z : List Addr} {H H' : Hp} (e : Same H H') : Same (offs Z H) (offs Z H') := fun _ _ h => offs_of (offs_some h).1 (e _ _ (offs_some h).2)
theorem offs_more {Z : List Addr} {H : Hp} {D : Addr} : Same (offs (D :: Z) H) (offs Z H) := fun _ _ h => offs_of (fun m => (offs_some h).1 (List.mem_cons_of_mem _ m)) (offs_some h).2
theorem offs_new {Z : List Addr} {H : Hp} {D : Addr} (n : H D = none) : Same (offs Z H) (offs (D :: Z) H) := fun b o h => by
  have ⟨h1, h2⟩ := offs_some h
  refine offs_of (fun m => ?_) h2
  rcases List.mem_cons.mp m with e | m
  · rw [e, n] at h2; cases h2
  · exact h1 m
theorem offs_upd {Z : List Addr} {H : Hp} {D : Addr} {o : HO} : Same (offs (D :: Z) H) (offs (D :: Z) (upd H D o)) := fun b u h => by
  have ⟨h1, h2⟩ := offs_some h
  exact offs_of h1 (h_ne (fun e => h1 (by rw [e]; exact List.mem_cons_self)) h2)
theorem offs_fr {Z : List Addr} {st : Addr} {H H' : Hp} (e : Fr st H H') (m : st ∈ Z) : Same (offs Z H) (offs Z H') := fun b o h => by
  have ⟨h1, h2⟩ := offs_some h
  exact offs_of h1 (e.k b o (fun z => h1 (by rw [z]; exact m)) h2)
/-- all of Z is tracked -/
def Trk (Z : List Addr) (H : Hp) : Prop := ∀ z ∈ Z, ∃ o, H z = some o
theorem Trk.same {Z : List Addr} {H H' : Hp} (t : Trk Z H) (e : Same H H') : Trk Z H' := fun z m => by
  obtain ⟨o, h⟩ := t z m
  exact ⟨o, e _ _ h⟩
theorem Trk.new {Z : List Addr} {H : Hp} {D : Addr} (t : Trk Z H) (n : H D = none) : D ∉ Z := fun m => by
  obtain ⟨o, h⟩ := t D m
  rw [n] at h
  cases h
theorem Trk.nil {H : Hp} : Trk [] H := fun _ m => by cases m
theorem Trk.one {H : Hp} {a : Addr} {o : HO} (h : H a = some o) : Trk [a] H := fun z m => by
  cases List.mem_singleton.mp m
  exact ⟨o, h⟩
theorem dp_off {K : PySem.W.Frag} {Z : List Addr} {H : Hp} {v : V} {d : PyData} (h : Dp K (offs Z H) v d) : Dp K H v d := dp_same offs_sub _ _ h
theorem dp_lst {K : PySem.W.Frag} {H : Hp} {a : Addr} {xs : List V} {ds : List PyData} (h : H a = some (.lst xs)) (g : DpAll K H xs ds) : Dp K H (.ref a) (.list ds) := .lst (sq_of h) g
theorem dp_tup {K : PySem.W.Frag} {H : Hp} {a : Addr} {xs : List V} {ds : List PyData} (h : H a = some (.tup xs)) (g : DpAll K H xs ds) : Dp K H (.ref a) (.tuple ds) := .tup (st_of h) g
end Vb
namespace Vb
open PySem PySem.Spec PyProof.Rows L2
/-! ### range(a, b) of any size that has no turn -/
theorem turn_none {P : Program} {w : World} {K : PySem.W.Frag} {tg : Expr} (it : Addr) (lo : Int) : Turn P w K tg (Itr lo 0) [it] it (fun _ h => ∃ x left step, left ≤ 0 ∧ IsLongIter h it x left step) where
  mem := List.mem_singleton.mpr rfl
  obj := fun i h ⟨x, l, c, _, st⟩ b hb => by
    cases List.mem_singleton.mp hb
    exact ⟨_, st, fun v z => by cases (show Data.fields _ = Data.cell v from z)⟩
  keep := fun i h h' ⟨x, l, c, hl, st⟩ k => ⟨x, l, c, hl, k it (List.mem_singleton.mpr rfl) _ st⟩
  item := fun X _ _ _ _ i pins s σ H E _ _ _ hg => absurd (show i < 0 from hg) (Nat.not_lt_zero i)
  done := by
    intro X hP hw hK hc i pins s σ H E I hf st _
    obtain ⟨x, l, c, hl, st⟩ := st
    subst hP hw hK
    have q := hf it (List.mem_singleton.mpr rfl)
    exact wpAny_pyNext_long_end (I.ok.hd hc) st hl fun h' eb => ⟨rfl, I.turned (t' := s.toks) (fun b o hb e => eb b o hb e) q.1 q.2.1 q.2.2.2.1 q.2.2.2.2.1 q.2.2.2.2.2⟩
  self := fun _ _ _ _ _ ⟨_, _, _, _, st⟩ h => wpAny_pyIter_longiter st h
def iRngW (ta : TA) : TI := fun σ H R => ta σ H fun vs H1 => ∃ i j : Int, vs = [.int i, .int j] ∧ ((-(2 ^ 62) ≤ i ∧ i < 2 ^ 62 ∧ -(2 ^ 62) ≤ j ∧ j < 2 ^ 62) ∨ j ≤ i) ∧ R (Itr i (j - i).toNat) H1
section
variable {X : Cx} {tg : Expr}
theorem range_none {pins : List (Addr × Obj)} {σ : L2.St} {H : Hp} {s : Shared} {R : It → Hp → Prop} {E : Value → Shared → Prop} {lo hi : Int} {t u v : Tok} {tk : Nat} (I : Inv X pins σ H s) (hle : hi ≤ lo) (hs : Builtin.Range.small lo hi 1 = false)
    (q : R (Itr lo 0) H) : wpAny (model X.prog X.w) X.A (pyIter (.ref s.heap.objs.size)) (PIE X pins σ tg R) E { s with heap := s.heap.push { cls := .type "range", data := .fields #[.int lo t, .int hi u, .int 1 v] }, toks := tk } := by
  refine wpAny_pyIter_longrange (IsRange.new ..) hs ?_
  have I1 : Inv X pins σ H { s with heap := s.heap.push { cls := .type "range", data := .fields #[.int lo t, .int hi u, .int 1 v] }, toks := tk } := I.kept fun b o e => Heap.get?_push_of_some _ e
  have z : Builtin.Range.rangeSize lo hi 1 ≤ 0 := by rw [rangeSize_one, if_neg (by omega)]; exact Int.le_refl 0
  refine ⟨_, [_], _, Itr lo 0, H, rfl, I1.kept (t' := tk) fun b o e => Heap.get?_push_of_some _ e, turn_none _ lo, ⟨_, _, _, z, Heap.get?_push_size _ rfl⟩, fun b hb => ?_, q⟩
  cases List.mem_singleton.mp hb
  exact I1.fpOk (Nat.le_refl _) (I1.hok.fresh (Nat.le_refl _))
theorem pi_rangeW {a b : Expr} {ta : TA} {p pos : Pos} (hg : Gl X "range") (hm : X.mg "range" = none) (ha : PA X [a, b] ta) (hs : starEach [a, b] X.env = [(false, eval a X.env), (false, eval b X.env)] := by rfl) (hs2 : starEach [b] X.env = [(false, eval b X.env)] := by rfl) :
    PI X tg (.Call (.Name "range" p) [a, b] [] pos) (iRngW ta) := by
  refine ⟨fun pins s σ H R I h => ?_⟩
  refine Call_ (ld_blt I hg hm boot_range (PyProof.Rows.callWith_type1 (thn (ha.run pos pins s σ H _ I h) fun us s1 hh => ?_) (by rw [hs, hs2]) (by rw [hs2]; rfl)))
  obtain ⟨vs, H1, I1, r1, i, j, ev, hb, q⟩ := hh
  subst ev
  obtain ⟨u1, u2, rfl, ⟨t1, rfl⟩, ⟨t2, rfl⟩⟩ := vals2 r1
  refine call_range_2 ?_
  rcases hb with hb | hb
  · exact range_it I1 hb.1 hb.2.1 hb.2.2.1 hb.2.2.2 q
  · have e : (j - i).toNat = 0 := by omega
    rw [e] at q
    cases hsm : Builtin.Range.small i j 1 with
    | false => exact range_none I1 hb hsm q
    | true =>
      refine wpAny_pyIter_range (IsRange.new ..) hsm ?_
      have I2 := I1.kept (h' := s1.heap.push { cls := .type "range", data := .fields #[.int i t1, .int j t2, .int 1 s1.toks] }) (t' := s1.toks + 1) fun b o e => Heap.get?_push_of_some _ e
      have z : Builtin.Range.rangeSize i j 1 = 0 := by rw [rangeSize_one, if_neg (by omega)]
      refine ⟨_, [_], _, Itr i 0, H1, rfl, I2.kept fun b o e => Heap.get?_push_of_some _ e, turn_range _ i 0, ?_, fun b hb => ?_, q⟩
      · show IsRangeIter _ _ (i + ((0 : Nat) : Int) * 1) (((0 : Nat) : Int) - ((0 : Nat) : Int)) 1
        rw [show i + ((0 : Nat) : Int) * 1 = i by omega, show ((0 : Nat) : Int) - ((0 : Nat) : Int) = Builtin.Range.rangeSize i j 1 by omega]
        exact Heap.get?_push_size _ rfl
      · cases List.mem_singleton.mp hb
        exact I2.fpOk (Nat.le_refl _) (I2.hok.fresh (Nat.le_refl _))
end
section
variable {K : PySem.W.Frag} {σ : L2.St} {H : Hp} {te : TE} {ts : TS} {nx : L2.St → Hp → Prop} {rt : VK}
theorem r_rngW {ta : TA} {R : It → Hp → Prop} (h : ta σ H fun vs H1 => ∃ i j : Int, vs = [.int i, .int j] ∧ ((-(2 ^ 62) ≤ i ∧ i < 2 ^ 62 ∧ -(2 ^ 62) ≤ j ∧ j < 2 ^ 62) ∨ j ≤ i) ∧ R (Itr i (j - i).toNat) H1) : iRngW ta σ H R := h
theorem f_rngW {lo hi : Int} {g : TG} (b : (-(2 ^ 62) ≤ lo ∧ lo < 2 ^ 62 ∧ -(2 ^ 62) ≤ hi ∧ hi < 2 ^ 62) ∨ hi ≤ lo) (q : ForW (Itr lo (hi - lo).toNat) g ts nx rt σ H) : ∃ i j : Int, [V.int lo, V.int hi] = [.int i, .int j] ∧ ((-(2 ^ 62) ≤ i ∧ i < 2 ^ 62 ∧ -(2 ^ 62) ≤ j ∧ j < 2 ^ 62) ∨ j ≤ i) ∧ ForW (Itr i (j - i).toNat) g ts nx rt σ H := ⟨lo, hi, rfl, b, q⟩
theorem c_rngW {lo hi : Int} {g : TG} {tt : TT} {vs : List Nat} {σ' : L2.St} {Q' : Addr → Hp → Prop} (b : (-(2 ^ 62) ≤ lo ∧ lo < 2 ^ 62 ∧ -(2 ^ 62) ≤ hi ∧ hi < 2 ^ 62) ∨ hi ≤ lo) (q : ∀ D, H D = none → LcW (Itr lo (hi - lo).toNat) g tt te vs σ' H D (Q' D)) : ∃ i j : Int, [V.int lo, V.int hi] = [.int i, .int j] ∧ ((-(2 ^ 62) ≤ i ∧ i < 2 ^ 62 ∧ -(2 ^ 62) ≤ j ∧ j < 2 ^ 62) ∨ j ≤ i) ∧ ∀ D, H D = none → LcW (Itr i (j - i).toNat) g tt te vs σ' H D (Q' D) := ⟨lo, hi, rfl, b, q⟩
end
/-! ### primes -/
def isP (n : Int) : Bool := decide (2 ≤ n) && (List.range n.toNat).all fun d => decide (d < 2) || decide (n % (d : Int) ≠ 0)
def Prm (n : Int) : Prop := 2 ≤ n ∧ ∀ d : Int, 2 ≤ d → d < n → n % d ≠ 0
theorem isP_iff (n : Int) : isP n = true ↔ Prm n := by
  unfold isP Prm
  rw [Bool.and_eq_true, decide_eq_true_eq, List.all_eq_true]
  refine ⟨fun ⟨h1, h2⟩ => ⟨h1, fun d a b => ?_⟩, fun ⟨h1, h2⟩ => ⟨h1, fun d m => ?_⟩⟩
  · have z := h2 d.toNat (List.mem_range.mpr (by omega))
    rw [Bool.or_eq_true, decide_eq_true_eq, decide_eq_true_eq] at z
    rcases z with z | z
    · omega
    · rwa [show ((d.toNat : Nat) : Int) = d by omega] at z
  · have m := List.mem_range.mp m
    rw [Bool.or_eq_true, decide_eq_true_eq, decide_eq_true_eq]
    by_cases c : d < 2
    · exact .inl c
    · exact .inr (h2 d (by omega) (by omega))
/-- no divisor up to the root: none at all -/
theorem prm_root {n D : Int} (h2 : 2 ≤ n) (hD : 2 ≤ D) (hs : n < D * D) (h : ∀ d : Int, 2 ≤ d → d < D → n % d ≠ 0) : Prm n := by
  refine ⟨h2, fun d a b z => ?_⟩
  have hd : d * (n / d) = n := Int.mul_ediv_cancel' (Int.dvd_of_emod_eq_zero z)
  by_cases c : d < D
  · exact h d a c z
  · have e1 : n / d < D := by
      by_cases c2 : n / d < D
      · exact c2
      · exact absurd (Int.mul_le_mul (show D ≤ d by omega) (show D ≤ n / d by omega) (by omega) (by omega)) (by omega)
    have e2 : 2 ≤ n / d := by
      have p : 1 ≤ n / d := by
        by_cases c3 : n / d ≤ 0
        · have := Int.mul_nonpos_of_nonneg_of_nonpos (show 0 ≤ d by omega) c3
          omega
        · omega
      by_cases c4 : n / d = 1
      · rw [c4] at hd; omega
      · omega
    refine h (n / d) e2 e1 ?_
    have e3 : n % (n / d) = 0 := by
      have : (d * (n / d)) % (n / d) = 0 := Int.mul_emod_left ..
      rwa [hd] at this
    exact e3
theorem not_prm {n d : Int} (h2 : 2 ≤ d) (h : d < n) (z : n % d = 0) : ¬ Prm n := fun p => p.2 d h2 h z
/-- the primes up to a limit -/
def upto (n : Int) : List Int := ((List.range (n + 1).toNat).map Int.ofNat).filter isP
theorem mem_upto {n p : Int} : p ∈ upto n ↔ Prm p ∧ p ≤ n := by
  unfold upto
  rw [List.mem_filter, isP_iff, List.mem_map]
  refine ⟨fun ⟨⟨k, m, e⟩, q⟩ => ⟨q, ?_⟩, fun ⟨q, l⟩ => ⟨⟨p.toNat, ?_, ?_⟩, q⟩⟩
  · have := List.mem_range.mp m
    have e' : (k : Int) = p := e
    omega
  · exact List.mem_range.mpr (by have := q.1; omega)
  · show ((p.toNat : Nat) : Int) = p
    have := q.1
    omega
theorem upto_low {n : Int} (h : n < 2) : upto n = [] := by
  refine List.eq_nil_iff_forall_not_mem.mpr fun p m => ?_
  obtain ⟨q, l⟩ := mem_upto.mp m
  have := q.1
  omega
theorem upto_next {n : Int} (h : 0 ≤ n + 1) : upto (n + 1) = upto n ++ (if isP (n + 1) then [n + 1] else []) := by
  unfold upto
  rw [show (n + 1 + 1).toNat = (n + 1).toNat + 1 by omega, List.range_succ, List.map_append, List.filter_append]
  congr 1
  rw [List.map_cons, List.map_nil, show Int.ofNat (n + 1).toNat = n + 1 by show (((n + 1).toNat : Nat) : Int) = n + 1; omega]
  rw [List.filter_cons, List.filter_nil]
theorem upto_len {n : Int} : (upto n).length ≤ (n + 1).toNat := by
  unfold upto
  refine Nat.le_trans (List.length_filter_le _ _) ?_
  rw [List.length_map, List.length_range]
  exact Nat.le_refl _
end Vb
namespace Vb
open PySem PySem.Spec PyProof.Rows L2
theorem least_prime : ∀ (k : Nat) (n d : Int), d.toNat ≤ k → 2 ≤ d → n % d = 0 → ∃ q, Prm q ∧ q ≤ d ∧ n % q = 0
  | 0, n, d, h, h2, _ => by omega
  | k + 1, n, d, h, h2, z => by
    by_cases p : Prm d
    · exact ⟨d, p, Int.le_refl _, z⟩
    · have ⟨e, e1, e2, e3⟩ : ∃ e : Int, 2 ≤ e ∧ e < d ∧ d % e = 0 := by
        refine Classical.byContradiction fun c => p ⟨h2, fun e a b y => c ⟨e, a, b, y⟩⟩
      have z2 : n % e = 0 := Int.emod_eq_zero_of_dvd (Int.dvd_trans (Int.dvd_of_emod_eq_zero e3) (Int.dvd_of_emod_eq_zero z))
      obtain ⟨q, a, b, c⟩ := least_prime k n e (by omega) e1 z2
      exact ⟨q, a, by omega, c⟩
/-- a number that no smaller prime divides is one -/
theorem prm_of {n : Int} (h2 : 2 ≤ n) (h : ∀ q, Prm q → q < n → n % q ≠ 0) : Prm n := ⟨h2, fun d a b z => by
  obtain ⟨q, p, l, y⟩ := least_prime d.toNat n d (Nat.le_refl _) a z
  exact h q p (by omega) y⟩
theorem upto_sorted (n : Int) : (upto n).Pairwise (· < ·) := by
  unfold upto
  refine List.Pairwise.filter _ (List.pairwise_map.mpr ?_)
  refine List.Pairwise.imp (fun {a b} h => ?_) List.pairwise_lt_range
  show (a : Int) < (b : Int)
  omega
theorem sorted_ahead : ∀ {xs : List Int} {j : Nat} {p q : Int}, xs.Pairwise (· < ·) → xs[j]? = some p → q ∈ xs → q < p → ∃ k, k < j ∧ xs[k]? = some q
  | [], j, p, q, _, _, m, _ => by cases m
  | x :: xs, 0, p, q, s, e, m, l => by
    cases (Option.some.inj e)
    rcases List.mem_cons.mp m with rfl | m
    · omega
    · have := (List.pairwise_cons.mp s).1 q m
      omega
  | x :: xs, j + 1, p, q, s, e, m, l => by
    rcases List.mem_cons.mp m with rfl | m
    · exact ⟨0, by omega, rfl⟩
    · obtain ⟨k, a, b⟩ := sorted_ahead (List.pairwise_cons.mp s).2 (by simpa using e) m l
      exact ⟨k + 1, by omega, by simpa using b⟩
theorem rgc_pos {i j c : Int} (hc : 0 < c) (hc2 : c < 1073741824) (hi : -1000000000 ≤ i ∧ i ≤ 1000000000) (hj : -1000000000 ≤ j ∧ j ≤ 1000000000) : RgC i j c (Builtin.Range.rangeSize i j c).toNat := by
  have hr : Builtin.Range.rangeSize i j c = if i < j then (j - i - 1) / c + 1 else 0 := by
    unfold Builtin.Range.rangeSize
    rw [if_pos (by omega)]
  have h0 : 0 ≤ Builtin.Range.rangeSize i j c := by
    rw [hr]
    split
    · have := Int.ediv_nonneg (show 0 ≤ j - i - 1 by omega) (show 0 ≤ c by omega)
      omega
    · omega
  have h1 : Builtin.Range.rangeSize i j c ≤ 2000000001 := by
    rw [hr]
    split
    · have := Int.ediv_le_self c (show 0 ≤ j - i - 1 by omega)
      omega
    · omega
  refine ⟨by omega, by omega, ?_, by omega⟩
  unfold Builtin.Range.small
  simp only [Builtin.Range.rangeFitsLong, Bool.and_eq_true, Bool.or_eq_true, decide_eq_true_eq, beq_iff_eq, hc, if_true]
  exact ⟨⟨⟨⟨⟨by omega, by omega⟩, by omega, by omega⟩, by omega, by omega⟩, by omega, by omega⟩, .inr ⟨by omega, by omega⟩⟩
section
variable {K : PySem.W.Frag} {σ : L2.St} {H : Hp} {Q : VK} {te ta tb : TE} {ts tu : TS} {nx bk ct : L2.St → Hp → Prop} {rt : VK}
/-- what stands behind ts is shown once, from Mid -/
theorem r_cut (Mid : L2.St → Hp → Prop) (h : ts (Ends.mk Mid rt bk ct) σ H) (k : ∀ σ' H', Mid σ' H' → tu (Ends.mk nx rt bk ct) σ' H') : Evl.tCut ts tu (Ends.mk nx rt bk ct) σ H := ⟨Mid, h, k⟩
theorem r_eqB {a b : Bool} (q : Q (.bl (a == b)) H) : rEq (.bl a) (.bl b) H Q := ⟨rfl, by
  have e : decide (V.bl a = V.bl b) = (a == b) := by cases a <;> cases b <;> rfl
  rw [e]
  exact q⟩
theorem r_eqBs {a : Bool} (q : Q (.bl true) H) : rEq (.bl a) (.bl a) H Q := r_eqB (by rw [beq_self_eq_true]; exact q)
theorem r_neB {a b : Bool} (q : Q (.bl (!(a == b))) H) : rNe (.bl a) (.bl b) H Q := ⟨rfl, by
  have e : decide (V.bl a = V.bl b) = (a == b) := by cases a <;> cases b <;> rfl
  rw [e]
  exact q⟩
theorem r_eqS {a b : Str} (q : Q (.bl (decide (a = b))) H) : rEq (.str a) (.str b) H Q := ⟨rfl, by
  have e : decide (V.str a = V.str b) = decide (a = b) := by
    by_cases h : a = b
    · rw [decide_eq_true h, decide_eq_true (congrArg V.str h)]
    · rw [decide_eq_false h, decide_eq_false (fun z => h (V.str.inj z))]
  rw [e]
  exact q⟩
theorem r_neS {a b : Str} (q : Q (.bl (!decide (a = b))) H) : rNe (.str a) (.str b) H Q := ⟨rfl, by
  have e : decide (V.str a = V.str b) = decide (a = b) := by
    by_cases h : a = b
    · rw [decide_eq_true h, decide_eq_true (congrArg V.str h)]
    · rw [decide_eq_false h, decide_eq_false (fun z => h (V.str.inj z))]
  rw [e]
  exact q⟩
theorem r_revL (h : te σ H fun x H1 => ∃ a xs, x = .ref a ∧ SqL K H1 a xs ∧ ∀ p, H1 p = none → Q (.ref p) (upd H1 p (.lst xs.reverse))) : tRevL K te σ H Q := h
theorem r_revv {a : Addr} {xs : List V} {R : Addr → Hp → Prop} (h : SqL K H a xs) (q : ∀ p, H p = none → R p (upd H p (.lst xs.reverse))) : ∃ b ys, V.ref a = .ref b ∧ SqL K H b ys ∧ ∀ p, H p = none → R p (upd H p (.lst ys.reverse)) := ⟨a, xs, rfl, h, q⟩
theorem r_sl {r : V → Option Int → Option Int → Hp → VK → Prop} {tl th : TO} (h : te σ H fun x H1 => tl σ H1 fun l H2 => th σ H2 fun u H3 => r x l u H3 Q) : tSl r te tl th σ H Q := h
theorem r_noP {QO : Option Int → Hp → Prop} (h : QO none H) : tNoPart σ H QO := h
theorem r_part {QO : Option Int → Hp → Prop} (h : te σ H fun x H1 => ∃ i, x = .int i ∧ QO (some i) H1) : tPart te σ H QO := h
theorem r_partv {i : Int} {R : Option Int → Hp → Prop} (h : R (some i) H) : ∃ j, V.int i = .int j ∧ R (some j) H := ⟨i, rfl, h⟩
theorem r_slL {a : Addr} {xs : List V} {lo hi : Option Int} (h : SqL K H a xs) (q : ∀ p, H p = none → Q (.ref p) (upd H p (.lst (cutV xs lo hi)))) : rSlL K (.ref a) lo hi H Q := ⟨a, xs, rfl, h, q⟩
theorem r_rep {a : Addr} {xs : List V} {k : Int} (h : H a = some (.lst xs)) (b1 : -(2 ^ 63) ≤ k) (b2 : k < 2 ^ 63) (b3 : xs.length * k.toNat ≤ sizeLine) (q : ∀ p, H p = none → Q (.ref p) (upd H p (.lst ((List.replicate k.toNat xs).flatten)))) : rRep (.ref a) (.int k) H Q := by
  refine ⟨a, k, xs, rfl, rfl, h, b1, b2, b3, ?_⟩
  exact q
end
theorem ix_of {n : Nat} {z : Int} (j : Nat) (e : z = (j : Int)) (h : j < n) : ixN n z = some j := by
  subst e
  unfold ixN
  rw [if_pos (Int.natCast_nonneg j), if_pos (by omega)]
  rfl
theorem rs_lt {i j c : Int} (hc : 0 < c) {k : Nat} (h : k < (Builtin.Range.rangeSize i j c).toNat) : i + (k : Int) * c < j := by
  unfold Builtin.Range.rangeSize at h
  rw [if_pos (by omega)] at h
  split at h
  · have h1 : (k : Int) ≤ (j - i - 1) / c := by omega
    have h2 := (Int.le_ediv_iff_mul_le hc).mp h1
    omega
  · exact absurd h (Nat.not_lt_zero k)
theorem rs_end {i j c : Int} (hc : 0 < c) : j ≤ i + ((Builtin.Range.rangeSize i j c).toNat : Int) * c := by
  unfold Builtin.Range.rangeSize
  rw [if_pos (by omega)]
  split
  · have h0 := Int.ediv_nonneg (show 0 ≤ j - i - 1 by omega) (show 0 ≤ c by omega)
    have h1 : ((((j - i - 1) / c + 1).toNat : Nat) : Int) = (j - i - 1) / c + 1 := by omega
    rw [h1, Int.add_mul, Int.one_mul]
    have h2 := Int.lt_ediv_add_one_mul_self (j - i - 1) hc
    rw [Int.add_mul, Int.one_mul] at h2
    omega
  · show j ≤ i + ((0 : Nat) : Int) * c
    omega
/-- a row of marks -/
def marks (N : Nat) (f : Nat → Bool) : List V := (List.range N).map fun m => V.bl (f m)
theorem marks_len (N : Nat) (f : Nat → Bool) : (marks N f).length = N := by
  unfold marks
  rw [List.length_map, List.length_range]
theorem marks_get {N : Nat} {f : Nat → Bool} {j : Nat} (h : j < N) : (marks N f)[j]? = some (.bl (f j)) := by
  unfold marks
  rw [List.getElem?_map, List.getElem?_range h]
  rfl
theorem marks_set {N : Nat} {f : Nat → Bool} {j : Nat} {b : Bool} : (marks N f).set j (.bl b) = marks N (fun m => if m = j then b else f m) := by
  refine List.ext_getElem? fun k => ?_
  by_cases hk : k < N
  · by_cases e : k = j
    · subst e
      rw [List.getElem?_set_self (by rw [marks_len]; exact hk), marks_get hk, if_pos rfl]
    · rw [List.getElem?_set_ne (Ne.symm e), marks_get hk, marks_get hk, if_neg e]
  · rw [List.getElem?_eq_none (by rw [List.length_set, marks_len]; omega), List.getElem?_eq_none (by rw [marks_len]; omega)]
theorem marks_rep (k : Nat) (b : Bool) : (List.replicate k [V.bl b]).flatten = marks k (fun _ => b) := by
  refine List.ext_getElem? fun j => ?_
  have e : (List.replicate k [V.bl b]).flatten = List.replicate k (V.bl b) := by
    induction k with
    | zero => rfl
    | succ k ih => rw [List.replicate_succ, List.flatten_cons, ih]; rfl
  rw [e]
  by_cases hk : j < k
  · rw [List.getElem?_replicate, if_pos hk, marks_get hk]
  · rw [List.getElem?_eq_none (by rw [List.length_replicate]; omega), List.getElem?_eq_none (by rw [marks_len]; omega)]
theorem mul_up {m n : Int} (hn : 0 < n) (h : n < m) (z : m % n = 0) : 2 * n ≤ m := by
  have e : n * (m / n) = m := Int.mul_ediv_cancel' (Int.dvd_of_emod_eq_zero z)
  have h2 : 2 ≤ m / n := by
    refine Int.not_lt.mp fun h3 => ?_
    have h4 : n * (m / n) ≤ n * 1 := Int.mul_le_mul_of_nonneg_left (by omega) (by omega)
    omega
  have h5 : n * 2 ≤ n * (m / n) := Int.mul_le_mul_of_nonneg_left h2 (by omega)
  omega
/-- a multiple below the next one but some -/
theorem mul_between {n m : Int} {k : Nat} (hn : 0 < n) (z : m % n = 0) : m < 2 * n + ((k + 1 : Nat) : Int) * n ↔ m < 2 * n + (k : Int) * n ∨ m = 2 * n + (k : Int) * n := by
  have e : n * (m / n) = m := Int.mul_ediv_cancel' (Int.dvd_of_emod_eq_zero z)
  have ek : ((k + 1 : Nat) : Int) * n = (k : Int) * n + n := by
    rw [show ((k + 1 : Nat) : Int) = (k : Int) + 1 by omega, Int.add_mul, Int.one_mul]
  rw [ek]
  refine ⟨fun h => ?_, fun h => by omega⟩
  by_cases c : m < 2 * n + (k : Int) * n
  · exact .inl c
  · refine .inr ?_
    have h1 : m / n < (k : Int) + 3 := by
      refine Int.not_le.mp fun h3 => ?_
      have h4 : n * ((k : Int) + 3) ≤ n * (m / n) := Int.mul_le_mul_of_nonneg_left h3 (by omega)
      have h5 : n * ((k : Int) + 3) = (k : Int) * n + 3 * n := by rw [Int.mul_add, Int.mul_comm n (k : Int), Int.mul_comm n 3]
      omega
    have h2 : (k : Int) + 2 ≤ m / n := by
      refine Int.not_lt.mp fun h3 => ?_
      have h4 : n * (m / n) ≤ n * ((k : Int) + 1) := Int.mul_le_mul_of_nonneg_left (by omega) (by omega)
      have h5 : n * ((k : Int) + 1) = (k : Int) * n + n := by rw [Int.mul_add, Int.mul_comm n (k : Int), Int.mul_one]
      omega
    have h6 : m / n = (k : Int) + 2 := by omega
    rw [h6, Int.mul_add, Int.mul_comm n (k : Int)] at e
    omega
theorem upto_all (n : Int) : upto (n + 1) = upto n ++ (if isP (n + 1) then [n + 1] else []) := by
  by_cases h : 0 ≤ n + 1
  · exact upto_next h
  · have e : isP (n + 1) = false := by
      cases y : isP (n + 1) with
      | false => rfl
      | true => exact absurd ((isP_iff _).mp y).1 (by omega)
    rw [upto_low (by omega), upto_low (by omega), e]
    rfl
theorem cut_last (xs : List V) (v : V) : cutV (xs ++ [v]) none (some (-1)) = xs := by
  unfold cutV
  have e : HT.sIx (xs ++ [v]).length (xs ++ [v]).length (some (-1)) = xs.length := by
    show (if (-1 : Int) < 0 then ((-1 : Int) + ((xs ++ [v]).length : Int)).toNat else min (-1 : Int).toNat (xs ++ [v]).length) = xs.length
    rw [if_pos (show (-1 : Int) < 0 by decide), List.length_append]
    show ((-1 : Int) + ((xs.length + 1 : Nat) : Int)).toNat = xs.length
    omega
  rw [e, HT.sIx_none, List.drop_zero, Nat.sub_zero, List.take_left]
section
variable {K : PySem.W.Frag} {σ : L2.St} {H : Hp} {Q : VK}
theorem r_isBl {a b : Bool} (q : Q (.bl (decide (a = b))) H) : rIsB (.bl a) (.bl b) H Q := ⟨a, b, rfl, rfl, q⟩
theorem r_notBl {a b : Bool} (q : Q (.bl (!decide (a = b))) H) : rNotB (.bl a) (.bl b) H Q := ⟨a, b, rfl, rfl, q⟩
/-- an int among ints -/
theorem inV_ints (z : Int) (ns : List Int) : inV (.int z) (ns.map V.int) = decide (z ∈ ns) := by
  unfold inV
  rw [List.any_map]
  by_cases h : z ∈ ns
  · rw [decide_eq_true h, List.any_eq_true]
    exact ⟨z, h, by show eqV (.int z) (.int z) = true; simp [eqV]⟩
  · rw [decide_eq_false h, Bool.eq_false_iff]
    intro c
    obtain ⟨y, m, e⟩ := List.any_eq_true.mp c
    have e' : eqV (.int y) (.int z) = true := e
    have : y = z := by simpa [eqV] using e'
    exact h (this ▸ m)
theorem r_inL {a : Addr} {z : Int} {ns : List Int} (h : SqL K H a (ns.map V.int)) (q : Q (.bl (decide (z ∈ ns))) H) : rIn K false (.int z) (.ref a) H Q := by
  refine ⟨a, _, rfl, .inl h, rfl, ?_, ?_⟩
  · rw [List.all_eq_true]
    intro v m
    obtain ⟨y, _, rfl⟩ := List.mem_map.mp m
    rfl
  · rw [if_neg (by decide), inV_ints]
    exact q
theorem r_niL {a : Addr} {z : Int} {ns : List Int} (h : SqL K H a (ns.map V.int)) (q : Q (.bl (!decide (z ∈ ns))) H) : rIn K true (.int z) (.ref a) H Q := by
  refine ⟨a, _, rfl, .inl h, rfl, ?_, ?_⟩
  · rw [List.all_eq_true]
    intro v m
    obtain ⟨y, _, rfl⟩ := List.mem_map.mp m
    rfl
  · rw [if_pos rfl, inV_ints]
    exact q
end
theorem dn_mk {K : PySem.W.Frag} {mg : Str → Option Value} {x : Str} {st : Stmt} {ps : List Str} {f : Addr} {oc : Value} {od an : Option Addr} {osl : Array (Option Value)} {kV doc pm cdv ct : Value} (g : mg x = some (.ref f))
    (l : K.lookup f = some ⟨oc, od, .func (PySem.W.fnOf x x (defArgs st) (defBody st) (defScope st) .none kV doc pm an cdv ct), osl⟩) (c : PySem.W.codeIn K cdv x = true) (k : PySem.W.keepIn K (.ref f) = true)
    (b : ∀ (kV doc pm : Value) (an : Option Addr) (cdv ct : Value) (us : List Value), us.length = ps.length → bindArgs (PySem.W.fnOf x x (defArgs st) (defBody st) (defScope st) .none kV doc pm an cdv ct) ⟨us, []⟩ = pure (ps.zip us)) : Dn K mg x st ps f (PySem.W.fnOf x x (defArgs st) (defBody st) (defScope st) .none kV doc pm an cdv ct) :=
  ⟨fun_mk l c k, g, (fun_mk l c k).binds b⟩
theorem tok_mk {K : PySem.W.Frag} {h : Heap} {mg : Str → Option Value} {x : Str} {n : Int} {t : Tok} (KX : K.In h) (G : h.Ns mainGlobals mg) (a : PySem.W.nsIn K mainGlobals x = some (some (.int n t))) : ∃ t, mg x = some (.int n t) := ⟨t, PySem.W.mg_of KX G a⟩
end Vb
namespace Vb
open PySem PySem.Spec PyProof.Rows L2
/-! ### methods and makings that may raise: what they let out is taken at this state -/
section
variable {X : Cx} {CX : CXT} {k : Nat} {f C : Addr} {fd : FuncData} {ps : List Str} {sp : Sp} {E : L2.St → XK} {x m : Str} {p pos apos : Pos} {e o : Expr} {es : List Expr} {ta : TE} {t : TA}
def tMethP (C : Addr) (m : Str) (sp : Sp) (E : L2.St → XK) (ta : TE) (t : TA) : TE := fun σ H Q => ta σ H fun x H1 => ∃ a dx fs, x = .ref a ∧ H1 a = some (.ins C dx fs) ∧ fs.lookup m = none ∧ t σ H1 fun vs H2 => sp (x :: vs) H2 Q (E σ)
theorem pe_methP {pl : Sem Bool} (ho : PE X o ta) (c : Cls X.K C) (hm : Meth X.K C m f) (F : FnOk X.prog X.w X.K X.mg X.base CX k f fd ps sp) (hr : Room k X.A) (hb : Binds X.K fd ps []) (hx : ∀ σ, PassesAt CX X σ (E σ)) (ha : PA X (e :: es) t) (hst : starEach (e :: es) X.env = (false, eval e X.env) :: starEach es X.env := by rfl) (hpl : (backTo pos (starEach es X.env)).any (·.1) = false := by rfl)
    (ht : eval (.Call (.Attribute o m apos) (e :: es) [] pos) X.env = (do let ov ← eval o X.env; standAt apos.atName; let (f, first) ← holding [ov] (getMethod ov m pl); callWith pos f first (backTo pos (starEach (e :: es) X.env)) (backToKw pos (keywordEach [] X.env))) := by rfl) : PE X (.Call (.Attribute o m apos) (e :: es) [] pos) (tMethP C m sp E ta t) := ⟨fun pins s σ H Q I h => PySem.W.methodCall_KW (pl := pl) (thn (ho.run pins s σ H _ I h) fun u s1 z => by
    obtain ⟨x, H1, I1, rx, a, dx, fs, ex, ea, l, q⟩ := z
    subst ex
    obtain rfl : u = Value.ref a := rx
    exact getmeth_ok I1 ea c hm l (PySem.W.callWith_K (first := [.ref a]) (h₀ := X.base) I1.ok.mod.kin hm.kp (thn (ha.run pos pins s1 σ H1 _ I1 q) fun us s2 ⟨vs, H2, I2, r, q2⟩ => ⟨I2.kIn, run_fnS (us := .ref a :: us) (vs := .ref a :: vs) F hr hb (hx σ) I2 (.cons rfl r) q2⟩) hst hpl)) ht⟩
theorem pe_methP0 {pl : Sem Bool} (ho : PE X o ta) (c : Cls X.K C) (hm : Meth X.K C m f) (F : FnOk X.prog X.w X.K X.mg X.base CX k f fd ps sp) (hr : Room k X.A) (hb : Binds X.K fd ps []) (hx : ∀ σ, PassesAt CX X σ (E σ))
    (ht : eval (.Call (.Attribute o m apos) [] [] pos) X.env = (do let ov ← eval o X.env; standAt apos.atName; let (f, first) ← holding [ov] (getMethod ov m pl); callWith pos f first (backTo pos (starEach [] X.env)) (backToKw pos (keywordEach [] X.env))) := by rfl) : PE X (.Call (.Attribute o m apos) [] [] pos) (tMethP C m sp E ta tNil) := ⟨fun pins s σ H Q I h => PySem.W.methodCall_KW (pl := pl) (thn (ho.run pins s σ H _ I h) fun u s1 z => by
    obtain ⟨x, H1, I1, rx, a, dx, fs, ex, ea, l, q⟩ := z
    subst ex
    obtain rfl : u = Value.ref a := rx
    exact getmeth_ok I1 ea c hm l (PySem.W.callWith_K0 (first := [.ref a]) I1.kIn hm.kp (run_fnS (us := [.ref a]) (vs := [.ref a]) F hr hb (hx σ) I1 (.cons rfl .nil) q))) ht⟩
def tMakeP (C : Addr) (sp : Sp) (E : L2.St → XK) (t : TA) : TE := fun σ H Q => t σ H fun vs H1 => ∀ x dx, H1 x = none → H1 dx = none → dx ≠ x → sp (.ref x :: vs) (upd (upd H1 dx (.own x)) x (.ins C dx [])) (fun v H2 => v = .non ∧ Q (.ref x) H2) (E σ)
theorem run_makeP {pins : List (Addr × Obj)} {σ : L2.St} {H : Hp} {s : Shared} {Q : VK} {us : List Value} {vs : List V} {E' : XK} (M : Mk X.K C f) (F : FnOk X.prog X.w X.K X.mg X.base CX k f fd ps sp) (hr : Room (k + 1) X.A) (hb : Binds X.K fd ps []) (hx : PassesAt CX X σ E') (I : Inv X pins σ H s) (r : Vals vs us)
    (h : ∀ x dx, H x = none → H dx = none → dx ≠ x → sp (.ref x :: vs) (upd (upd H dx (.own x)) x (.ins C dx [])) (fun v H2 => v = .non ∧ Q (.ref x) H2) E') : wpAny (model X.prog X.w) X.A (call (.ref C) us) (EP X pins σ Q) X.xe s := by
  have I2 := Inv.made (C := C) I
  have hq := h (s.heap.objs.size + 1) s.heap.objs.size (I.hok.fresh (Nat.le_succ _)) (I.hok.fresh (Nat.le_refl _)) (Nat.ne_of_lt (Nat.lt_succ_self _))
  have r2 : Vals (V.ref (s.heap.objs.size + 1) :: vs) (Value.ref (s.heap.objs.size + 1) :: us) := .cons rfl r
  have hl : (Value.ref (s.heap.objs.size + 1) :: us).length = ps.length := by
    rw [← r2.length]
    exact F.len _ _ _ _ hq
  have b := hb _ (Value.ref (s.heap.objs.size + 1) :: us) I2.kIn (by rw [List.append_nil]; exact hl)
  rw [List.append_nil] at b
  refine wpAny_call (make_map (f := f) I.kIn M.makes M.init (beq_iff_eq.mp M.fn) (codeAny_mono (F.run _ X.stack _ _ ⟨Value.ref (s.heap.objs.size + 1) :: us, []⟩ _ _ _ E' (hr.make C us []) (I2.env0.make C us []) b r2 hq) fun r s' hq' => ?_))
  cases r with
  | error e => exact hx pins _ _ e s' I2 hq'
  | ok fl =>
    cases fl with
    | ret u =>
      have z := I2.after hq'
      obtain ⟨v, H', I3, rv, ev, q3⟩ := z
      subst ev
      exact ⟨rv, V.ref (s.heap.objs.size + 1), _, I3, rfl, q3⟩
    | next => exact hq'.elim
    | brk => exact hq'.elim
    | cont => exact hq'.elim
theorem pe_makeP (M : Mk X.K C f) (F : FnOk X.prog X.w X.K X.mg X.base CX k f fd ps sp) (hr : Room (k + 1) X.A) (hg : Gl X x) (hm : X.mg x = some (.ref C)) (hb : Binds X.K fd ps []) (hx : ∀ σ, PassesAt CX X σ (E σ)) (ha : PA X (e :: es) t) (hdb : (x == ("__debug__" : Str)) = false := by decide)
    (he : starEach (e :: es) X.env = (false, eval e X.env) :: starEach es X.env := by rfl) (hpl : (backTo pos (starEach es X.env)).any (·.1) = false := by rfl) : PE X (.Call (.Name x p) (e :: es) [] pos) (tMakeP C sp E t) :=
  ⟨fun pins s σ H Q I h => wpAny_Call_Name_kw (ld_glob I hg hm (PySem.W.callWith_K (h₀ := X.base) I.ok.mod.kin M.kp (thn (ha.run pos pins s σ H _ I h) fun us s1 ⟨vs, H1, I1, r, q⟩ => ⟨I1.kIn, run_makeP M F hr hb (hx σ) I1 r q⟩) he hpl) hdb)⟩
end
/-- a method of the text -/
structure Dm (K : PySem.W.Frag) (x qual : Str) (st : Stmt) (ps : List Str) (f : Addr) (fd : FuncData) : Prop where
  F : Fun K x qual st f fd
  b : Binds K fd ps []
theorem dm_mk {K : PySem.W.Frag} {x qual : Str} {st : Stmt} {ps : List Str} {f : Addr} {oc : Value} {od an : Option Addr} {osl : Array (Option Value)} {kV doc pm cdv ct : Value}
    (l : K.lookup f = some ⟨oc, od, .func (PySem.W.fnOf x qual (defArgs st) (defBody st) (defScope st) .none kV doc pm an cdv ct), osl⟩) (c : PySem.W.codeIn K cdv qual = true) (k : PySem.W.keepIn K (.ref f) = true)
    (b : ∀ (kV doc pm : Value) (an : Option Addr) (cdv ct : Value) (us : List Value), us.length = ps.length → bindArgs (PySem.W.fnOf x qual (defArgs st) (defBody st) (defScope st) .none kV doc pm an cdv ct) ⟨us, []⟩ = pure (ps.zip us)) : Dm K x qual st ps f (PySem.W.fnOf x qual (defArgs st) (defBody st) (defScope st) .none kV doc pm an cdv ct) :=
  ⟨fun_mk l c k, (fun_mk l c k).binds b⟩
/-! readings -/
theorem r_fld {K : PySem.W.Frag} {σ : L2.St} {H : Hp} {Q : VK} {a C dx : Addr} {fs : List (Str × V)} {f : Str} {v : V} (h : H a = some (.ins C dx fs)) (c : Cls K C) (n : PySem.W.findIn K (.ref C) f = some none) (l : fs.lookup f = some v) (q : Q v H) : ∃ a' C' dx' fs' v', V.ref a = .ref a' ∧ H a' = some (.ins C' dx' fs') ∧ Cls K C' ∧ NoAttr K C' f ∧ fs'.lookup f = some v' ∧ Q v' H := ⟨a, C, dx, fs, v, rfl, h, c, n, l, q⟩
theorem r_sfld {K : PySem.W.Frag} {σ : L2.St} {H : Hp} {ta tv : TE} {f : Str} {D : L2.Ends} (h : tv σ H fun y H1 => ta σ H1 fun x H2 => ∃ a C dx fs, x = .ref a ∧ H2 a = some (.ins C dx fs) ∧ Cls K C ∧ NoAttr K C f ∧ fs.length < 1000 ∧ D.nx σ (upd H2 a (.ins C dx (putF f y fs)))) : sFld K ta tv f D σ H := h
theorem r_tfld {K : PySem.W.Frag} {σ : L2.St} {H : Hp} {Q : VK} {ta : TE} {f : Str} (h : ta σ H fun x H1 => ∃ a C dx fs v, x = .ref a ∧ H1 a = some (.ins C dx fs) ∧ Cls K C ∧ NoAttr K C f ∧ fs.lookup f = some v ∧ Q v H1) : tFld K ta f σ H Q := h
theorem r_meth {σ : L2.St} {H : Hp} {Q : VK} {C : Addr} {m : Str} {sp : Sp} {E : L2.St → XK} {ta : TE} {t : TA} (h : ta σ H fun x H1 => ∃ a dx fs, x = .ref a ∧ H1 a = some (.ins C dx fs) ∧ fs.lookup m = none ∧ t σ H1 fun vs H2 => sp (x :: vs) H2 Q (E σ)) : tMethP C m sp E ta t σ H Q := h
theorem r_make {σ : L2.St} {H : Hp} {Q : VK} {C : Addr} {sp : Sp} {E : L2.St → XK} {t : TA} (h : t σ H fun vs H1 => ∀ x dx, H1 x = none → H1 dx = none → dx ≠ x → sp (.ref x :: vs) (upd (upd H1 dx (.own x)) x (.ins C dx [])) (fun v H2 => v = .non ∧ Q (.ref x) H2) (E σ)) : tMakeP C sp E t σ H Q := h
theorem r_listRg {σ : L2.St} {H : Hp} {Q : VK} {te : L2.St → Hp → (Int → Int → Hp → Prop) → Prop} (h : te σ H fun a b H1 => RgOk a b ∧ ∀ q, H1 q = none → Q (.ref q) (upd H1 q (.lst (rgV a b)))) : tLstRg te σ H Q := h
theorem r_rg1 {σ : L2.St} {H : Hp} {ta : TE} {Q : Int → Int → Hp → Prop} (h : ta σ H fun x H1 => ∃ n, x = .int n ∧ Q 0 n H1) : tRg1 ta σ H Q := h
theorem r_rg2 {σ : L2.St} {H : Hp} {ta tb : TE} {Q : Int → Int → Hp → Prop} (h : ta σ H fun x H1 => tb σ H1 fun y H2 => ∃ i j, x = .int i ∧ y = .int j ∧ Q i j H2) : tRg2 ta tb σ H Q := h
section
variable {X : Cx} {CX : CXT} {k : Nat} {f C : Addr} {fd : FuncData} {ps ks : List Str} {sp : Sp} {E : XK} {m : Str} {pos apos : Pos} {e o : Expr} {es : List Expr} {kws : List Keyword} {ta : TE} {t tk : TA} {g : List Value → List Value → List Value} {gV : List V → List V → List V}
/-- o.m(e, .., k = v, ..) -/
def tMethK (C : Addr) (m : Str) (sp : Sp) (gV : List V → List V → List V) (E : XK) (ta : TE) (t tk : TA) : TE := fun σ H Q => ta σ H fun x H1 => ∃ a dx fs, x = .ref a ∧ H1 a = some (.ins C dx fs) ∧ fs.lookup m = none ∧ t σ H1 fun vs H2 => tk σ H2 fun zs H3 => sp (gV (x :: vs) zs) H3 Q E
theorem pe_methK {pl : Sem Bool} (ho : PE X o ta) (c : Cls X.K C) (hm : Meth X.K C m f) (F : FnOk X.prog X.w X.K X.mg X.base CX k f fd ps sp) (hr : Room k X.A) (hb : KBinds X.K fd ps ks g gV) (hx : Passes CX X E) (ha : PA X (e :: es) t) (hkw : PK X kws tk)
    (hall : (backToKw pos (keywordEach kws X.env)).all (·.1.isSome) = true := by rfl) (hks : (backToKw pos (keywordEach kws X.env)).filterMap (·.1) = ks := by rfl) (hst : starEach (e :: es) X.env = (false, eval e X.env) :: starEach es X.env := by rfl) (hpl : ((backTo pos (starEach (e :: es) X.env)).any (·.1) || (backToKw pos (keywordEach kws X.env)).any (·.1.isNone)) = false := by rfl)
    (ht : eval (.Call (.Attribute o m apos) (e :: es) kws pos) X.env = (do let ov ← eval o X.env; standAt apos.atName; let (f, first) ← holding [ov] (getMethod ov m pl); callWith pos f first (backTo pos (starEach (e :: es) X.env)) (backToKw pos (keywordEach kws X.env))) := by rfl) : PE X (.Call (.Attribute o m apos) (e :: es) kws pos) (tMethK C m sp gV E ta t tk) := ⟨fun pins s σ H Q I h => PySem.W.methodCall_KW (pl := pl) (thn (ho.run pins s σ H _ I h) fun u s1 z => by
    obtain ⟨x, H1, I1, rx, a, dx, fs, ex, ea, l, q⟩ := z
    subst ex
    obtain rfl : u = Value.ref a := rx
    refine getmeth_ok I1 ea c hm l (PySem.W.callWith_KW (first := [.ref a]) (h₀ := X.base) I1.ok.mod.kin hm.kp hall (thn (ha.run pos pins s1 σ H1 _ I1 q) fun us s2 ⟨vs, H2, I2, r, q2⟩ => ?_) hpl hst)
    refine thn (hkw.run pos pins s2 σ H2 _ I2 q2) fun ws s3 ⟨zs, H3, I3, rz, q3⟩ => ⟨I3.kIn, ?_⟩
    rw [hks]
    exact run_fnk (us := .ref a :: us) (vs := .ref a :: vs) F hr hb hx I3 (.cons rfl r) rz q3) ht⟩
theorem r_methK {σ : L2.St} {H : Hp} {Q : VK} (h : ta σ H fun x H1 => ∃ a dx fs, x = .ref a ∧ H1 a = some (.ins C dx fs) ∧ fs.lookup m = none ∧ t σ H1 fun vs H2 => tk σ H2 fun zs H3 => sp (gV (x :: vs) zs) H3 Q E) : tMethK C m sp gV E ta t tk σ H Q := h
end
/-- two by place, one by its name -/
def g21 {α : Type} : List α → List α → List α
  | [a, b], [c] => [a, b, c]
  | _, _ => []
theorem kb21 {K : PySem.W.Frag} {x qual kn : Str} {st : Stmt} {f : Addr} {fd : FuncData} {ps : List Str} (F : Fun K x qual st f fd) (hp : ps.length = 3)
    (h : ∀ (kV doc pm : Value) (an : Option Addr) (cdv ct a b c : Value), bindArgs (PySem.W.fnOf x qual (defArgs st) (defBody st) (defScope st) .none kV doc pm an cdv ct) ⟨[a, b], [(kn, c)]⟩ = pure (ps.zip [a, b, c])) : KBinds K fd ps [kn] g21 g21 := by
  obtain ⟨oc, od, kV, doc, pm, an, cdv, ct, osl, rfl, lk, hcd⟩ := F.ex
  refine ⟨fun s us ws _ hl => ?_, fun {vs us zs ws} r z => ?_⟩
  · rcases us with _ | ⟨a, _ | ⟨b, _ | ⟨d, us⟩⟩⟩ <;> rcases ws with _ | ⟨c, _ | ⟨e, ws⟩⟩ <;> first | exact .of_eq (h kV doc pm an cdv ct a b c) | (rw [hp] at hl; cases hl)
  · rcases r with _ | ⟨r1, _ | ⟨r2, _ | ⟨r3, r⟩⟩⟩ <;> rcases z with _ | ⟨z1, _ | ⟨z2, z⟩⟩ <;> first | exact .cons r1 (.cons r2 (.cons z1 .nil)) | exact .nil
end Vb
namespace Vb
open PySem PySem.Spec PyProof.Rows L2
/-! ### a try with several clauses, each of which keeps a name -/
/-- what the clauses wish of an error, in their order -/
def wAll (K : PySem.W.Frag) (Wo : WX) (D : L2.Ends) : List (Value × Nat × (Addr → Value → Option Addr → TS)) → WX
  | [] => Wo
  | (c, i, ts) :: r => wAs K c i ts (wAll K Wo D r) D
inductive Clauses (X : Cx) : List ExceptHandler → List (Value × Nat × (Addr → Value → Option Addr → TS)) → Prop
  | nil : Clauses X [] []
  | cons {x n : Str} {c : Value} {i : Nat} {ts : Addr → Value → Option Addr → TS} {b0 : Stmt} {su : List Stmt} {np po : Pos} {hs : List ExceptHandler} {l : List (Value × Nat × (Addr → Value → Option Addr → TS))} (hi : X.N[i]? = some n) (hl : X.env.kindOf n = some .local) (hc : Names X x c)
      (hsu : ∀ (a : Addr) (oe : Obj) (cls : Value) (d : Option Addr) (pn : List (Addr × Obj)), L2N.Zn cls d oe → (∃ vs, oe.data = .fields vs) → PSs (X.suite a ((a, oe) :: pn)) (b0 :: su) (ts a cls d)) (r : Clauses X hs l) : Clauses X (.ExceptHandler (some (.Name x np)) (some n) (b0 :: su) po :: hs) ((c, i, ts) :: l)
section
variable {X : Cx} {body : List Stmt} {c0 : ExceptHandler} {cs : List ExceptHandler} {l : List (Value × Nat × (Addr → Value → Option Addr → TS))} {pos : Pos} {tb : WX → TS} {Wo : WX}
theorem ps_try_all (st : X.stack = X.env :: X.outer) (fr : X.env.frame = some X.env.locals) (nd : X.N.Nodup) (tk : L2N.Takes X Wo)
    (hb : ∀ (W : WX) (pn : List (Addr × Obj)) (xe : Value → Shared → Prop), L2N.Takes (X.tr pn xe) W → PassesOwn (model X.prog X.w) X.A X.env xe → PSs (X.tr pn xe) body (tb W))
    (hh : Clauses X (c0 :: cs) l) : PS X (.Try body (c0 :: cs) [] [] pos) (fun D σ H => tb (wAll X.K Wo D l) D σ H) := by
  refine ⟨fun pins s σ H D I h => ?_⟩
  have iok := I.ok
  have afr : X.A.frames = some (X.env :: X.outer) := by rw [iok.frames, st]
  refine wpAny_Try_except (wpAny_mono ((hb (wAll X.K Wo D l) (X.pn ++ pins) (fun e z1 => wpAny (model X.prog X.w) X.A (noteFrame e X.env) (fun _ z2 => wpAny (model X.prog X.w) X.A (setFlight e none) (fun _ z3 =>
    wpAny (model X.prog X.w) X.A (handleBy e X.env (c0 :: cs)) (SP X pins D) X.xe z3) X.xe z2) X.xe z1) (fun u s' z => ?caught) PassesOwn.looking).run [] s σ H D (I.toTry _) h) (fun f s1 z => ?thru) (fun _ _ z => z))
  case thru =>
    cases f with
    | ret u =>
      obtain ⟨v, σ1, H1, J1, r1, q1⟩ := z
      exact ⟨v, σ1, H1, J1.ofTry iok, r1, q1⟩
    | next =>
      obtain ⟨σ1, H1, J1, q1⟩ := z
      exact wpAny_execs_nil ⟨σ1, H1, J1.ofTry iok, q1⟩
    | brk =>
      obtain ⟨σ1, H1, J1, q1⟩ := z
      exact ⟨σ1, H1, J1.ofTry iok, q1⟩
    | cont =>
      obtain ⟨σ1, H1, J1, q1⟩ := z
      exact ⟨σ1, H1, J1.ofTry iok, q1⟩
  case caught =>
    obtain ⟨a, B, sI, pins1, σ1, H1, cls, d, rfl, J0, nb, up, sky0, na, os, ag, w⟩ := z
    have J : Inv X pins σ1 H1 sI := J0.ofTry iok
    have sky1 : Sky B (X.env :: X.outer) a (L2N.Zn cls d) X.env.locals s'.heap := by rw [← st]; exact sky0
    refine L2N.Sky.land L2N.Zn.steady afr fr sky1 fun h3 fl3 up3 => ?_
    have J3 : Inv X pins σ1 H1 { s' with heap := h3 } := J.landed nb fl3.1 (up.trans up3) os ag
    obtain ⟨oe3, vs3, he3, hz3, hd3⟩ := fl3.there
    have nfr : a ∉ frs (X.env :: X.outer) := fun hm => by
      obtain ⟨_, o', e', hnf⟩ := fl3.2.2.1.mem hm
      rw [he3] at e'
      cases e'
      exact hnf _ hd3
    have nL : a ≠ X.env.locals := fun z => nfr (List.mem_filterMap.mpr ⟨X.env, List.mem_cons_self, by rw [fr, z]⟩)
    have nF : a ∉ X.fs := fun hm => by
      obtain ⟨e, he, q⟩ := List.mem_filterMap.mp hm
      exact nfr (List.mem_filterMap.mpr ⟨e, List.mem_cons_of_mem _ he, q⟩)
    have S3 := J3.suite he3 hd3 na nL nF
    have go : ∀ {cs1 : List ExceptHandler} {l1 : List (Value × Nat × (Addr → Value → Option Addr → TS))}, Clauses X cs1 l1 → wAll X.K Wo D l1 cls d σ1 H1 → wpAny (model X.prog X.w) X.A (handleBy (.ref a) X.env cs1) (SP X pins D) X.xe { s' with heap := h3 } := by
      intro cs1 l1 hk
      induction hk with
      | nil =>
        intro w1
        refine wpAny_handleBy_nil ?_
        obtain ⟨k1, k2, k3, oe, vs, T, oT, ts1, he, hz, hd, h1, hr⟩ := id fl3
        unfold PySem.passOn
        refine wpAny_bind (wpAny_field he hd h1 ?_)
        rw [if_neg (show ¬ ((Value.ref T == Value.none) = true) by simp)]
        have last : wpAny (model X.prog X.w) X.A (setFlight (.ref a) X.env.frame) (fun _ z4 => wpAny (model X.prog X.w) X.A (throw (.ref a) : Sem Flow) (SP X pins D) X.xe z4) X.xe { s' with heap := h3 } := by
          rw [fr]
          exact HandSPX.setFlight_upZ fl3 fun h4 hh4 up4 => wpAny_throw (tk _ _ ⟨a, B, sI, pins, σ1, H1, cls, d, rfl, J, nb, (up.trans up3).trans up4, .inr (.inr (by rw [st]; exact hh4)), na, os, ag, w1⟩)
        first
          | exact wpAny_bind (wpAny_pure (wpAny_bind last))
          | exact wpAny_bind last
      | @cons x n c i ts b0 su np po hs2 l2 hi hln hc hsu r ih =>
        intro w1
        obtain ⟨b, hb1, hyes, hno⟩ := w1
        refine wpAny_handleBy_cons (codeAny_handlers_test ?_) (fun q => by cases q)
        have LT : PySem.W.Looks (model X.prog X.w) h3 (typeOf (.ref a)) cls := fun _ _ _ _ k q => wpAny_typeOf_ref (k _ _ he3) (by rw [hz3.1]; exact q)
        have LM := PySem.W.exm_one (M := model X.prog X.w) J3.kIn LT hb1
        have look : ∀ {Q E : Value → Shared → Prop}, Q c { s' with heap := h3 } → wpAny (model X.prog X.w) (X.A.mark (some (.ref a))) (eval (.Name x np) X.env) Q E { s' with heap := h3 } := fun {Q E} q => by
          rcases hc with ⟨hg, hdb, hm | ⟨hm, hv, hnn⟩⟩
          · exact ld_glob (X := X.suite a ((a, oe3) :: (X.pn ++ pins))) S3 hg hm q hdb
          · exact ld_blt (X := X.suite a ((a, oe3) :: (X.pn ++ pins))) S3 hg hm hv q hnn hdb
        refine look (LM.here ?_)
        cases b with
        | false => exact ih (hno rfl)
        | true =>
          refine codeAny_handlers_suite_as (HandSPX.lands_againZ fl3 fun h4 fl4 up4 => ?_)
          have J4 : Inv X pins σ1 H1 { s' with heap := h4 } := J.landed nb fl4.1 ((up.trans up3).trans up4) os ag
          obtain ⟨oe4, vs4, he4, hz4, hd4⟩ := fl4.there
          have S4 := J4.suite he4 hd4 na nL nF
          refine store_ok (X := X.suite a ((a, oe4) :: (X.pn ++ pins))) (v := .ref a) S4 nd hi (.inl hln) rfl (fun s5 S5 => ?_) (.inr hln)
          refine wpAny_mono ((hsu a oe4 cls d (X.pn ++ pins) hz4 ⟨_, hd4⟩).run [] s5 _ H1 _ S5 (hyes rfl a na)) (fun f s6 hsp => ?_) (fun _ _ z => z.elim)
          have over : ∀ {σ6 : L2.St} {H6 : Hp} {Q : Shared → Prop}, Inv (X.suite a ((a, oe4) :: (X.pn ++ pins))) [] σ6 H6 s6 → (∀ s7, Inv X pins (σ6.set i none) H6 s7 → Q s7) →
              wpAny (model X.prog X.w) X.A (do bindName X.env n .none; unbindBehindTheSuite X.env n po) (fun _ s7 => Q s7) X.xe s6 := fun S6 hq => gone_ok (S6.unsuite iok) nd hi hln hq
          cases f with
          | ret u =>
            obtain ⟨v6, σ6, H6, S6, r6, q6⟩ := hsp
            exact over S6 fun _ J7 => ⟨_, _, _, J7, r6, q6⟩
          | next =>
            obtain ⟨σ6, H6, S6, q6⟩ := hsp
            exact over S6 fun _ J7 => ⟨_, _, J7, q6⟩
          | brk =>
            obtain ⟨σ6, H6, S6, q6⟩ := hsp
            exact over S6 fun _ J7 => ⟨_, _, J7, q6⟩
          | cont =>
            obtain ⟨σ6, H6, S6, q6⟩ := hsp
            exact over S6 fun _ J7 => ⟨_, _, J7, q6⟩
    exact go hh w
end
/-- a clause that is not meant -/
theorem r_pass {K : PySem.W.Frag} {c : Value} {i : Nat} {ts : Addr → Value → Option Addr → TS} {Wo : WX} {D : L2.Ends} {cls : Value} {d : Option Addr} {σ : L2.St} {H : Hp} (e : PySem.W.exmOne K cls c = some false) (h : Wo cls d σ H) : wAs K c i ts Wo D cls d σ H := ⟨false, e, fun z => Bool.noConfusion z, fun _ => h⟩
theorem Xk.no {K : PySem.W.Frag} {C D : Addr} (k : Xk K C) (s : PySem.W.subIn K (.ref D) (.ref C) = some false) : PySem.W.exmOne K (.ref D) (.ref C) = some false := PySem.W.exm_ref k.sb k.hd k.ty s
/-! ### x in o, o == x by the text's own defs -/
section
variable {X : Cx} {CX : CXT} {k : Nat} {f C : Addr} {fd : FuncData} {ps : List Str} {sp : Sp} {E : XK}
/-- what x in o asks -/
def rInOwn (neg : Bool) (C : Addr) (sp : Sp) (E : XK) : R2 := fun x y H Q => ∃ a dx fs, y = .ref a ∧ H a = some (.ins C dx fs) ∧ sp [y, x] H (fun v H' => ∃ b, v = .bl b ∧ Q (.bl (if neg then !b else b)) H') E
theorem cont_own {pins : List (Addr × Obj)} {s : Shared} {σ : L2.St} {H : Hp} {x : V} {v : Value} {a dx : Addr} {fs : List (Str × V)} {Q : Bool → Shared → Prop} (hs : PySem.W.findIn X.K (.ref C) "__contains__" = some (some (.ref f))) (hf : PySem.W.isFn X.K (.ref f) = true)
    (F : FnOk X.prog X.w X.K X.mg X.base CX k f fd ps sp) (hr : Room k X.A) (hb : Binds X.K fd ps []) (hx : PassesAt CX X σ E) (I : Inv X pins σ H s) (rx : RelV x v) (ha : H a = some (.ins C dx fs)) {Qv : VK} (q : sp [.ref a, x] H Qv E)
    (hq : ∀ u s', EP X pins σ Qv u s' → ∃ b, u = Value.bool b ∧ Q b s') : wpAny (model X.prog X.w) X.A (contains (.ref a) v) Q X.xe s := by
  obtain ⟨mA, J, _⟩ := ins_get I.hok ha
  obtain ⟨od, J, _⟩ := J.look
  have kx := I.kIn
  have spec : PySem.W.Looks (model X.prog X.w) s.heap (specialOf (.ref a) "__contains__") (some (.ref f)) := fun A Q E s' k' q' => by
    unfold specialOf
    exact wpAny_bind (J.type A _ _ _ k' ((PySem.W.looks_findIn kx hs) A _ _ _ k' q'))
  unfold contains
  refine wpAny_holding ?_
  rw [PySem.stdlibNamesSay?_ref]
  refine wpAny_bind (spec.here ?_)
  show wpAny _ X.A (if (some (Value.ref f) == some Value.none) = true then _ else _) Q X.xe s
  rw [if_neg (by simp)]
  refine wpAny_bind ?_
  unfold callSpecialUnlessNone?
  refine wpAny_bind (spec.here (wpAny_holding (wpAny_bind ((PySem.W.bind_fn kx _ (beq_iff_eq.mp hf)).here ?_))))
  show wpAny _ X.A (if (Value.ref f == Value.none) = true then _ else _) _ X.xe s
  rw [if_neg (by simp)]
  refine wpAny_bind (wpAny_mono (run_fnS (E := fun _ => E) (us := [.ref a, v]) (vs := [.ref a, x]) F hr hb hx I (.cons rfl (.cons rx .nil)) q) (fun u s' z => ?_) fun _ _ z => z)
  obtain ⟨b, rfl, q'⟩ := hq u s' z
  exact wpAny_pure (wpAny_truthy_bool q')
theorem op_inOwn (hs : PySem.W.findIn X.K (.ref C) "__contains__" = some (some (.ref f))) (hf : PySem.W.isFn X.K (.ref f) = true) (F : FnOk X.prog X.w X.K X.mg X.base CX k f fd ps sp) (hr : Room k X.A) (hb : Binds X.K fd ps []) (hx : ∀ σ, PassesAt CX X σ E) : OpR X (compareOp .In) (rInOwn false C sp E) := by
  intro pins s σ H x y v u Q I rx ry h
  obtain ⟨a, dx, fs, rfl, ha, q⟩ := h
  obtain rfl : u = Value.ref a := ry
  show wpAny (model X.prog X.w) X.A (do let b ← contains (.ref a) v; pure (Value.bool b)) (EP X pins σ Q) X.xe s
  refine wpAny_bind (cont_own hs hf F hr hb (hx σ) I rx ha q fun u s' z => ?_)
  obtain ⟨w, H', I', rw', b, rfl, q'⟩ := z
  exact ⟨b, rw', wpAny_pure ⟨.bl b, H', I', rfl, q'⟩⟩
theorem op_notInOwn (hs : PySem.W.findIn X.K (.ref C) "__contains__" = some (some (.ref f))) (hf : PySem.W.isFn X.K (.ref f) = true) (F : FnOk X.prog X.w X.K X.mg X.base CX k f fd ps sp) (hr : Room k X.A) (hb : Binds X.K fd ps []) (hx : ∀ σ, PassesAt CX X σ E) : OpR X (compareOp .NotIn) (rInOwn true C sp E) := by
  intro pins s σ H x y v u Q I rx ry h
  obtain ⟨a, dx, fs, rfl, ha, q⟩ := h
  obtain rfl : u = Value.ref a := ry
  show wpAny (model X.prog X.w) X.A (do let b ← contains (.ref a) v; pure (Value.bool (!b))) (EP X pins σ Q) X.xe s
  refine wpAny_bind (cont_own hs hf F hr hb (hx σ) I rx ha q fun u s' z => ?_)
  obtain ⟨w, H', I', rw', b, rfl, q'⟩ := z
  exact ⟨b, rw', wpAny_pure ⟨.bl (!b), H', I', rfl, q'⟩⟩
/-- what o == x asks -/
def rEqOwn (K : PySem.W.Frag) (C : Addr) (sp : Sp) (E : XK) : R2 := fun x y H Q => ∃ a dx fs tb, x = .ref a ∧ H a = some (.ins C dx fs) ∧ TyX K H y tb ∧ PySem.W.notFirst K C tb = true ∧ sp [x, y] H (fun v H' => ∃ b, v = .bl b ∧ Q (.bl b) H') E
theorem op_eqOwn (hs : PySem.W.findIn X.K (.ref C) "__eq__" = some (some (.ref f))) (hf : PySem.W.isFn X.K (.ref f) = true) (F : FnOk X.prog X.w X.K X.mg X.base CX k f fd ps sp) (hr : Room k X.A) (hb : Binds X.K fd ps []) (hx : ∀ σ, PassesAt CX X σ E) : OpR X (compareOp .Eq) (rEqOwn X.K C sp E) := by
  intro pins s σ H x y v u Q I rx ry h
  obtain ⟨a, dx, fs, tb, rfl, ha, ty, nf, q⟩ := h
  obtain rfl : v = Value.ref a := rx
  obtain ⟨P, Z, p, _⟩ := kit_of I ry ty
  obtain ⟨mA, J, _⟩ := ins_get I.hok ha
  obtain ⟨od, J, _⟩ := J.look
  obtain ⟨m, hF⟩ := I.fr
  show wpAny (model X.prog X.w) X.A (richCompare .Eq (.ref a) u) (EP X pins σ Q) X.xe s
  refine PySem.W.cmp_K (op := .Eq) (tb := tb) hr.units0 hF I.ok.mod.kin J (Z.ty _ _ I.kIn p) nf hs hf ?_
  refine wpAny_mono (run_fnS (E := fun _ => E) (us := [.ref a, u]) (vs := [.ref a, y]) F hr hb (hx σ) I (.cons rfl (.cons ry .nil)) q) (fun w s' z => ?_) fun _ _ z => z
  obtain ⟨w', H', I', rw', b, rfl, q'⟩ := z
  cases (show w = Value.bool b from rw')
  exact ⟨.bl b, H', I', rfl, q'⟩
end
theorem pass5A {X : Cx} : ∀ σ, PassesAt (L2N.CX X.prog X.w) X σ E0 := fun σ pins H s e s' I c => pass5 pins σ H s e s' I c
/-- an own class: what isinstance asks of its objects and of itself -/
structure Ki (K : PySem.W.Frag) (C : Addr) : Prop where
  ha : PySem.W.findIn K (.ref C) "__class__" = some (some (.builtin "object.__class__"))
  hn : PySem.W.specialIn K (.builtin "object.__class__") "__get__" = some (some (.builtin "getset_descriptor.__get__"))
  htk : PySem.W.takesIn K (.builtin "object.__class__") = some true
  hm : PySem.W.mroIn K C (.type "object") = some true
  ic : PySem.W.isClsIn K C = true
  ty : PySem.W.typeIn K (.ref C) = some (.type "type")
theorem Ki.tyx {K : PySem.W.Frag} {C a dx : Addr} {H : Hp} {fs : List (Str × V)} (k : Ki K C) (c : Cls K C) (h : H a = some (.ins C dx fs)) : TyX K H (.ref a) (.ref C) := .base (.ins h c k.ha k.hn k.htk k.hm)
theorem Ki.me {K : PySem.W.Frag} {C : Addr} (k : Ki K C) : PySem.W.kitOne K (.ref C) (.ref C) = some true := by
  unfold PySem.W.kitOne
  rw [if_pos (by simp)]
theorem Ki.of {K : PySem.W.Frag} {C : Addr} {T : String} (k : Ki K C) (s : PySem.W.subIn K (.type T) (.ref C) = some false) : PySem.W.kitOne K (.type T) (.ref C) = some false := by
  have h1' : (PySem.W.clsIn K C).isSome = true := k.ic
  unfold PySem.W.kitOne
  rw [if_neg (by intro h; cases beq_iff_eq.mp h)]
  show (if ((PySem.W.clsIn K C).isSome && PySem.W.typeIn K (.ref C) == some (.type "type")) = true then PySem.W.subIn K (.type T) (.ref C) else none) = _
  rw [h1', k.ty, if_pos (by decide)]
  exact s
theorem nf_me {K : PySem.W.Frag} {C : Addr} : PySem.W.notFirst K C (.ref C) = true := by simp [PySem.W.notFirst]
theorem nf_ty {K : PySem.W.Frag} {C : Addr} {T : String} (s : PySem.W.subIn K (.type T) (.ref C) = some false) : PySem.W.notFirst K C (.type T) = true := by simp [PySem.W.notFirst, s]
/-! ### further readings -/
theorem r_atM {H : Hp} {a C dx : Addr} {fs : List (Str × V)} {m : Str} {R : Prop} (h : H a = some (.ins C dx fs)) (l : fs.lookup m = none) (q : R) : ∃ a' dx' fs', V.ref a = .ref a' ∧ H a' = some (.ins C dx' fs') ∧ fs'.lookup m = none ∧ R := ⟨a, dx, fs, rfl, h, l, q⟩
theorem h_same {H H' : Hp} {a : Addr} {o : HO} (e : Same H H') (h : H a = some o) : H' a = some o := e a o h
theorem h_fr {H H' : Hp} {st a : Addr} {o : HO} (e : Fr st H H') (n : a ≠ st) (h : H a = some o) : H' a = some o := e.k a o n h
theorem r_newO {xs : List V} {H : Hp} {R : Addr → Prop} (hs : xs.length ≤ sizeLine) (h : ∀ p, H p = none → R p) : xs.length ≤ sizeLine ∧ ∀ p, H p = none → R p := ⟨hs, h⟩
theorem fr_new {H H' : Hp} {st p : Addr} {o : HO} (f : Fr st H H') (n : H' p = none) : Fr st H (upd H' p o) := f.trans (Fr.of (same_new n))
theorem fr_same {H H' H2 : Hp} {st : Addr} (f : Fr st H H') (e : Same H' H2) : Fr st H H2 := f.trans (Fr.of e)
theorem sm_new {H H' : Hp} {p : Addr} {o : HO} (f : Same H H') (n : H' p = none) : Same H (upd H' p o) := f.trans (same_new n)
theorem st_new {H : Hp} {st p : Addr} {o : HO} (s : StoreAt H st) (n : H p = none) : StoreAt (upd H p o) st := s.same (same_new n)
theorem r_fldV {K : PySem.W.Frag} {H : Hp} {a C dx : Addr} {fs : List (Str × V)} {f : Str} {v : V} {R : V → Prop} (h : H a = some (.ins C dx fs)) (c : Cls K C) (n : NoAttr K C f) (l : fs.lookup f = some v) (q : R v) : ∃ a' C' dx' fs' v', V.ref a = .ref a' ∧ H a' = some (.ins C' dx' fs') ∧ Cls K C' ∧ NoAttr K C' f ∧ fs'.lookup f = some v' ∧ R v' := ⟨a, C, dx, fs, v, rfl, h, c, n, l, q⟩
end Vb
namespace Vb
open PySem PySem.Spec PyProof.Rows L2
/-! ### texts: their rules under own names, their readings -/
abbrev sg (x : Str) : List Nat := TL.tl x
theorem sg_len (x : Str) : x.length = (sg x).length := TL.len_tl x
theorem sg_ext {x y : Str} (h : sg x = sg y) : x = y := TL.ext_tl h
theorem sg_app (x y : Str) : sg (x ++ y) = sg x ++ sg y := TL.tl_append x y
theorem sg_lit (s : String) : sg (Str.ofString s) = s.toList.map Char.toNat := TL.tl_ofString s
theorem sg_one (c : Nat) : sg ⟨#[c]⟩ = [c] := rfl
theorem len_app (x y : Str) : (x ++ y).length = x.length + y.length := by rw [sg_len, sg_len, sg_len, sg_app, List.length_append]
theorem len_lit (s : String) : (Str.ofString s).length = s.toList.length := by rw [sg_len, sg_lit, List.length_map]
theorem len_one (c : Nat) : (Str.mk #[c]).length = 1 := rfl
section
variable {X : Cx} {K : PySem.W.Frag} {H : Hp} {Q : VK} {σ : L2.St}
def rAddS : R2 := fun x y H Q => ∃ i j, x = .str i ∧ y = .str j ∧ i.length + j.length ≤ sizeLine ∧ Q (.str (i ++ j)) H
theorem op_addS : OpR X (binaryOp .Add) rAddS := L2.op_add_str
theorem r_addS {i j : Str} (h : i.length + j.length ≤ sizeLine) (q : Q (.str (i ++ j)) H) : rAddS (.str i) (.str j) H Q := ⟨i, j, rfl, rfl, h, q⟩
def rMulS : R2 := fun x y H Q => ∃ (z : Str) (k : Int), x = .str z ∧ y = .int k ∧ (k < 1000000 ∧ -1000000 < k ∧ z.length * k.toNat ≤ 16777216) ∧ Q (.str (Txt.mul z k)) H
theorem mul_ok {z : Str} {k : Int} (h : k < 1000000 ∧ -1000000 < k ∧ z.length * k.toNat ≤ 16777216) : PySem.MulOk z k := by
  obtain ⟨h1, h2, h3⟩ := h
  refine ⟨by rw [decide_eq_false (by omega), decide_eq_false (by omega)]; rfl, fun n1 _ => ?_, fun n1 _ => ?_⟩
  · intro hh
    have hk : 0 < k := by omega
    have hm : (z.length : Int) * k ≤ 16777216 := by
      have : ((z.length * k.toNat : Nat) : Int) ≤ 16777216 := by omega
      rw [Int.natCast_mul, Int.toNat_of_nonneg (by omega)] at this
      exact this
    have h4 : (z.length : Int) ≤ (2 ^ 63 - 1) / k := by
      rw [Int.le_ediv_iff_mul_le hk]
      omega
    omega
  · show decide (z.length * k.toNat > PySem.sizeLine) = false
    rw [decide_eq_false]
    show ¬ z.length * k.toNat > 2 ^ 24
    omega
theorem op_mulS : OpR X (binaryOp .Mult) rMulS := by
  intro pins s σ H x y v u Q I rx ry h
  obtain ⟨z, k, rfl, rfl, hk, q⟩ := h
  obtain ⟨t, rfl⟩ := rx
  obtain ⟨t', rfl⟩ := ry
  exact PySem.SB.mul (mul_ok hk) fun t2 tk => ⟨.str (Txt.mul z k), H, I.tok _, ⟨_, rfl⟩, q⟩
theorem r_mulS {z : Str} {k : Int} (h : k < 1000000 ∧ -1000000 < k ∧ z.length * k.toNat ≤ 16777216) (q : Q (.str (Txt.mul z k)) H) : rMulS (.str z) (.int k) H Q := ⟨z, k, rfl, rfl, h, q⟩
theorem mul_len (z : Str) (k : Int) : (Txt.mul z k).length ≤ z.length * k.toNat := by
  unfold Txt.mul
  split
  · exact Nat.zero_le _
  · split
    · rename_i h1 h2
      have : 1 ≤ k.toNat := by omega
      exact Nat.le_mul_of_pos_right _ this
    · show ((List.replicate k.toNat z.cps).foldl (· ++ ·) #[]).size ≤ _
      rw [PySem.size_reps]
      show 0 + k.toNat * z.length ≤ _
      rw [Nat.zero_add, Nat.mul_comm]
      exact Nat.le_refl _
def rInSg (neg : Bool) : R2 := fun x y H Q => ∃ (c : Nat) (z : Str), x = .str ⟨#[c]⟩ ∧ y = .str z ∧ Q (.bl (if neg then !decide (c ∈ sg z) else decide (c ∈ sg z))) H
theorem op_inSg : OpR X (compareOp .In) (rInSg false) := L2.op_in_sign
theorem op_niSg : OpR X (compareOp .NotIn) (rInSg true) := L2.op_notIn_sign
theorem r_inSg {c : Nat} {z : Str} (q : Q (.bl (decide (c ∈ sg z))) H) : rInSg false (.str ⟨#[c]⟩) (.str z) H Q := ⟨c, z, rfl, rfl, q⟩
theorem r_niSg {c : Nat} {z : Str} (q : Q (.bl (!decide (c ∈ sg z))) H) : rInSg true (.str ⟨#[c]⟩) (.str z) H Q := ⟨c, z, rfl, rfl, q⟩
theorem r_inSgV {c : Nat} {x z : Str} (e : sg x = [c]) (q : Q (.bl (decide (c ∈ sg z))) H) : rInSg false (.str x) (.str z) H Q := by
  obtain rfl : x = ⟨#[c]⟩ := sg_ext e
  exact ⟨c, z, rfl, rfl, q⟩
theorem r_ixS {z : Str} {i : Int} {c : Nat} (h : z.length ≤ sizeLine) (e : atI (sg z) i = some c) (q : Q (.str ⟨#[c]⟩) H) : rIxS (.str z) (.int i) H Q := ⟨z, i, c, rfl, rfl, h, e, q⟩
theorem r_cutS {z : Str} {lo hi : Option Int} (h : z.length ≤ sizeLine) (q : Q (.str (cutS z lo hi)) H) : rSlS (.str z) lo hi H Q := ⟨z, rfl, h, q⟩
theorem cut_len (z : Str) (lo hi : Option Int) : (cutS z lo hi).length ≤ z.length := cutS_length z lo hi
def rLenStr : List V → Hp → VK → Prop := fun xs H Q => ∃ z, xs = [.str z] ∧ z.length ≤ sizeLine ∧ Q (.int z.length) H
theorem call_lenS : CallR X (.builtin "len") rLenStr := L2.call_len_str
theorem r_lenS {z : Str} (h : z.length ≤ sizeLine) (q : Q (.int z.length) H) : rLenStr [.str z] H Q := ⟨z, rfl, h, q⟩
theorem call_all (hc : X.calm = true) : CallR X (.builtin "all") (rAll X.K) := L2.cr_all hc
theorem r_all {a : Addr} {bs : List Bool} (h : SqL K H a (bs.map V.bl)) (q : Q (.bl (bs.all id)) H) : rAll K [.ref a] H Q := ⟨a, bs, rfl, h, q⟩
theorem r_cat {l b : Addr} {xs zs : List V} (h1 : H l = some (.lst xs)) (h2 : H b = some (.lst zs)) (h3 : xs.length + zs.length ≤ sizeLine) (q : ∀ p, H p = none → Q (.ref p) (upd H p (.lst (xs ++ zs)))) : rCat (.ref l) (.ref b) H Q := ⟨l, b, xs, zs, rfl, rfl, h1, h2, h3, q⟩
theorem r_repL {l : Addr} {k : Int} {xs : List V} (h1 : H l = some (.lst xs)) (h2 : -1000000 < k ∧ k < 1000000) (h3 : xs.length * k.toNat ≤ sizeLine) (q : ∀ p, H p = none → Q (.ref p) (upd H p (.lst (List.replicate k.toNat xs).flatten))) : rRep (.ref l) (.int k) H Q := ⟨l, k, xs, rfl, rfl, h1, by omega, by omega, h3, q⟩
-- sep.join(xs), s.split(sep), s.upper()
def rJoin (K : PySem.W.Frag) : V → List V → Hp → VK → Prop := fun x xs H Q => ∃ a p, ∃ ys : List Str, x = .str a ∧ xs = [.ref p] ∧ (SqL K H p (ys.map V.str) ∨ SqT K H p (ys.map V.str)) ∧ (ys.map (·.length)).sum + ys.length * a.length ≤ 16777216 ∧ Q (.str (Txt.join a ys)) H
theorem pe_joinN {o e : Expr} {to te : TE} {apos pos : Pos} (ho : PE X o to) (he : PE X e te) (hs : starEach [e] X.env = [(false, eval e X.env)] := by rfl) (hbase : attributeBase o "join" X.env (eval o X.env) = eval o X.env := by rfl) (hline : (apos.endLine == pos.line) = true := by rfl) :
    PE X (.Call (.Attribute o "join" apos) [e] [] pos) (tM1 (rJoin X.K) to te) := L2.pe_join ho he hs hbase hline
theorem r_M1 {r : V → List V → Hp → VK → Prop} {to te : TE} (h : to σ H fun x H1 => (∃ a, x = .str a) ∧ te σ H1 fun y H2 => r x [y] H2 Q) : tM1 r to te σ H Q := h
theorem r_M0 {r : V → List V → Hp → VK → Prop} {to : TE} (h : to σ H fun x H1 => (∃ a, x = .str a) ∧ r x [] H1 Q) : tM0 r to σ H Q := h
theorem r_strA {s : Str} {R : Prop} (q : R) : (∃ a, V.str s = .str a) ∧ R := ⟨⟨s, rfl⟩, q⟩
theorem r_join {a : Str} {p : Addr} {ys : List Str} (h : SqL K H p (ys.map V.str)) (l : (ys.map (·.length)).sum + ys.length * a.length ≤ 16777216) (q : Q (.str (Txt.join a ys)) H) : rJoin K (.str a) [.ref p] H Q := ⟨a, p, ys, rfl, rfl, .inl h, l, q⟩
def rSplit : V → List V → Hp → VK → Prop := fun x xs H Q => ∃ a b, x = .str a ∧ xs = [.str b] ∧ (b.length == 0) = false ∧ a.length + 2 ≤ sizeLine ∧ rNewStrs (Txt.split a b) H Q
theorem pe_splitN {o e : Expr} {to te : TE} {apos pos : Pos} (ho : PE X o to) (he : PE X e te) (hs : starEach [e] X.env = [(false, eval e X.env)] := by rfl) (hbase : attributeBase o "split" X.env (eval o X.env) = eval o X.env := by rfl) (hline : (apos.endLine == pos.line) = true := by rfl) :
    PE X (.Call (.Attribute o "split" apos) [e] [] pos) (tM1 rSplit to te) := L2.pe_split ho he hs hbase hline
theorem r_split {a b : Str} (hb : (b.length == 0) = false) (ha : a.length + 2 ≤ sizeLine) (q : ∀ p, H p = none → Q (.ref p) (upd H p (.lst ((Txt.split a b).map V.str)))) : rSplit (.str a) [.str b] H Q := ⟨a, b, rfl, rfl, hb, ha, q⟩
def rUpper : V → List V → Hp → VK → Prop := fun x xs H Q => ∃ a, x = .str a ∧ xs = [] ∧ a.length ≤ 5592405 ∧ Q (.str (Txt.upper a)) H
theorem pe_upperN {o : Expr} {to : TE} {apos pos : Pos} (ho : PE X o to) (hbase : attributeBase o "upper" X.env (eval o X.env) = eval o X.env := by rfl) (hline : (apos.endLine == pos.line) = true := by rfl) :
    PE X (.Call (.Attribute o "upper" apos) [] [] pos) (tM0 rUpper to) := L2.pe_upper ho hbase hline
theorem r_upper {a : Str} (h : a.length ≤ 5592405) (q : Q (.str (Txt.upper a)) H) : rUpper (.str a) [] H Q := ⟨a, rfl, rfl, h, q⟩
-- walks over a text
theorem r_iStr {te : TE} {R : It → Hp → Prop} (h : te σ H fun v H1 => ∃ x, v = .str x ∧ R (Its x) H1) : iStr te σ H R := h
theorem f_str {x : Str} {R : Str → Prop} (q : R x) : ∃ y, V.str x = .str y ∧ R y := ⟨x, rfl, q⟩
end
theorem at_sg {x : Str} {i c : Nat} (h : x.cps[i]? = some c) : (sg x)[i]? = some c := by
  show x.cps.toList[i]? = some c
  rw [Array.getElem?_toList]
  exact h
section
variable {ts : TS} {nx : L2.St → Hp → Prop} {rt : VK} {σ : L2.St} {H : Hp} {te : TE} {j : Nat}
theorem lp_str {x : Str} {g : TG} (Pv : Nat → L2.St → Hp → Prop) (h0 : Pv 0 σ H) (hs : ∀ i c σ H, (sg x)[i]? = some c → Pv i σ H → g (.str ⟨#[c]⟩) σ H fun σ2 H2 => ts (Ends.mk (Pv (i + 1)) rt nx (Pv (i + 1))) σ2 H2) (hd : ∀ σ H, Pv (sg x).length σ H → nx σ H) : ForW (Its x) g ts nx rt σ H := by
  have e : x.cps.size = (sg x).length := (Array.length_toList).symm
  refine ⟨fun i m σ H => m = (sg x).length - i ∧ i ≤ (sg x).length ∧ Pv i σ H, ⟨_, rfl, Nat.zero_le _, h0⟩, ?_⟩
  rintro i m σ H ⟨rfl, hi, p⟩
  by_cases hc : i = (sg x).length
  · subst hc
    exact .inl ⟨Nat.le_of_eq e, hd _ _ p⟩
  · refine .inr ⟨(by omega : i < x.cps.size), fun σ' H' => Pv (i + 1) σ' H', fun σ' H' q => ⟨(sg x).length - (i + 1), by omega, rfl, by omega, q⟩, ?_⟩
    rintro v H' ⟨rfl, c, hc, rfl⟩
    exact hs i c σ _ (at_sg hc) p
theorem lcw_str {x : Str} {tt : TT} {vs : List Nat} {H1 : Hp} {D : Addr} {Qd : Hp → Prop} (Pv : Nat → Hp → Prop) (h0 : Pv 0 (upd H1 D (.lst []))) (hw : ∀ x, wipe ((wipe σ vs).set j (some x)) vs = wipe σ vs)
    (hs : ∀ i c H, (sg x)[i]? = some c → Pv i H → LcT tt te D (Pv (i + 1)) ((wipe σ vs).set j (some (.str ⟨#[c]⟩))) H) (hd : ∀ H, Pv (sg x).length H → Qd H) : LcW (Its x) (gName j) tt te vs σ H1 D Qd := by
  have e : x.cps.size = (sg x).length := (Array.length_toList).symm
  refine ⟨fun i m H => m = (sg x).length - i ∧ i ≤ (sg x).length ∧ Pv i H, ⟨_, rfl, Nat.zero_le _, h0⟩, ?_⟩
  rintro i m H ⟨rfl, hi, p⟩
  by_cases hc : i = (sg x).length
  · subst hc
    exact .inl ⟨Nat.le_of_eq e, hd _ p⟩
  · refine .inr ⟨(by omega : i < x.cps.size), fun H' => Pv (i + 1) H', fun H' q => ⟨(sg x).length - (i + 1), by omega, rfl, by omega, q⟩, ?_⟩
    rintro v H' ⟨rfl, c, hc, rfl⟩
    exact ⟨hw _, hs i c _ (at_sg hc) p⟩
end
theorem inV_strs (z : Str) (ns : List Str) : inV (.str z) (ns.map V.str) = decide (z ∈ ns) := by
  unfold inV
  rw [List.any_map]
  by_cases h : z ∈ ns
  · rw [decide_eq_true h, List.any_eq_true]
    exact ⟨z, h, by show eqV (.str z) (.str z) = true; simp [eqV]⟩
  · rw [decide_eq_false h, Bool.eq_false_iff]
    intro c
    obtain ⟨y, m, e⟩ := List.any_eq_true.mp c
    have e' : eqV (.str y) (.str z) = true := e
    have : y = z := by simpa [eqV] using e'
    exact h (this ▸ m)
theorem r_inW {K : PySem.W.Frag} {H : Hp} {Q : VK} {a : Addr} {z : Str} {ns : List Str} (h : SqL K H a (ns.map V.str)) (q : Q (.bl (decide (z ∈ ns))) H) : rIn K false (.str z) (.ref a) H Q := by
  refine ⟨a, _, rfl, .inl h, rfl, ?_, ?_⟩
  · rw [List.all_eq_true]
    intro v m
    obtain ⟨y, _, rfl⟩ := List.mem_map.mp m
    rfl
  · rw [if_neg (by decide), inV_strs]
    exact q
theorem at_sgn {l : List Nat} {c : Nat} {z : Int} (j : Nat) (e : z = (j : Int)) (h : l[j]? = some c) : atI l z = some c := by
  rw [e]
  exact atI_nat h
theorem ix_nat {n : Nat} {z : Int} (j : Nat) (e : z = (j : Int)) (h : j < n) : ixN n z = some j := by
  subst e
  unfold ixN
  rw [if_pos (Int.natCast_nonneg j), if_pos (by omega)]
  rfl
theorem nl_sg : sg (Str.ofString "\n") = [10] := by rw [sg_lit]; rfl
theorem sp_sg : sg (Str.ofString " ") = [32] := by rw [sg_lit]; rfl
theorem em_sg : sg (Str.ofString "") = [] := by rw [sg_lit]; rfl
theorem str_nil {s : Str} : s = Str.ofString "" ↔ sg s = [] := ⟨fun h => by rw [h, em_sg], fun h => sg_ext (by rw [h, em_sg])⟩
theorem r_partI {i : Int} {R : Int → Prop} (h : R i) : ∃ j, V.int i = .int j ∧ R j := ⟨i, rfl, h⟩
theorem app_le {x y : Str} {a b : Nat} (h : x.length ≤ a) (k : y.length ≤ b) : (x ++ y).length ≤ a + b := by rw [len_app]; omega
theorem cut_le {x : Str} {lo hi : Option Int} {a : Nat} (h : x.length ≤ a) : (cutS x lo hi).length ≤ a := Nat.le_trans (cutS_length x lo hi) h
theorem lit_le (s : String) : (Str.ofString s).length ≤ s.toList.length := Nat.le_of_eq (len_lit s)
theorem mul_le {x : Str} {k : Int} {a : Nat} (h : x.length ≤ a) : (Txt.mul x k).length ≤ a * k.toNat := Nat.le_trans (mul_len x k) (Nat.mul_le_mul_right _ h)
theorem one_le (c : Nat) : (Str.mk #[c]).length ≤ 1 := Nat.le_refl 1
theorem tokS_mk {K : PySem.W.Frag} {h : Heap} {mg : Str → Option Value} {x : Str} {n : Str} {t : Tok} (KX : K.In h) (G : h.Ns mainGlobals mg) (a : PySem.W.nsIn K mainGlobals x = some (some (.str n t))) : ∃ t, mg x = some (.str n t) := ⟨t, PySem.W.mg_of KX G a⟩
end Vb
namespace Vb
open PySem PySem.Spec PyProof.Rows L2
/-! ### enumerate(t), t a tuple -/
theorem new_enumB {v : Value} {o : Obj} {G : Heap → Prop} (B : Begins v o G) :
    Meets (Builtin.«enumerate.__new__» ⟨[.type "enumerate", v], []⟩) (fun _ R z => G z.heap ∧ R (.ok (.ret (.ref (z.heap.push o).objs.size))) { z with heap := (z.heap.push o).push { cls := .type "enumerate", data := .fields #[.none, .bool false, .ref z.heap.objs.size, rawInt 0, .none, .none] } }) := by
  refine .of_wp fun P w A R z hz => ?_
  obtain ⟨hp, gg, dd, tk, os⟩ := z
  obtain ⟨g1, hz⟩ := hz
  have sb := sub_enumerate
  have begun : ∀ {A1 : Around} {E1 : Value → Shared → Prop} {Q1 : Value → Shared → Prop}, Q1 (.ref hp.objs.size) ⟨hp.push o, gg, dd, tk, os⟩ → wpAny (model P w) A1 (pyIter v) Q1 E1 ⟨hp, gg, dd, tk, os⟩ := fun q => B.iter P w _ _ ⟨hp, gg, dd, tk, os⟩ _ g1 q
  wp_walk using begun
  refine wpAny_stack_any (fun z => ?_)
  refine wpAny_pure ?_
  split
  · rename_i cc _ _ _ _ _
    cases (cc == Value.type "enumerate") <;> (wp_walk using begun; exact ⟨_, rfl, hz⟩)
  · wp_walk using begun
    exact ⟨_, rfl, hz⟩
section
variable {prog : Program} {w : World} {A : Around} {E : Value → Shared → Prop} {s : Shared}
theorem call_enumT {t : Addr} {items : Array Value} {Q : Value → Shared → Prop} (ht : s.heap.IsTuple t items)
    (q : ∀ h', IsEnum h' (s.heap.objs.size + 1) s.heap.objs.size 0 .none → h'.IsTupleIter s.heap.objs.size t 0 → (∀ b o, s.heap.get? b = some o → h'.get? b = some o) → Q (.ref (s.heap.objs.size + 1)) { s with heap := h' }) : wpAny (model prog w) A (call (.type "enumerate") [.ref t]) Q E s := by
  refine callType_new F.called_enumerate (by decide) (F.typeCall_enumerate_1 _) (F.newCall_enumerate_1 _) (fun x => F.args_object_init_2 x _) F.entry_enumerate_new (new_enumB (begins_tuple t items)) ⟨ht, ?_⟩
  generalize ho : ({ cls := .type "tuple_iterator", data := .fields #[.ref t, .int 0 0] } : Obj) = o
  have hf : o.isFreed = false := by rw [← ho]; rfl
  have hs : (s.heap.push o).objs.size = s.heap.objs.size + 1 := Heap.size_push ..
  show _ ∧ _
  rw [hs]
  generalize hu : ({ cls := .type "enumerate", data := .fields #[.none, .bool false, .ref s.heap.objs.size, rawInt 0, .none, .none] } : Obj) = u
  have he : ((s.heap.push o).push u).get? (s.heap.objs.size + 1) = some u := by
    have := Heap.get?_push_size (s.heap.push o) (o := u) (by rw [← hu]; rfl)
    rw [hs] at this
    exact this
  have he2 : IsEnum ((s.heap.push o).push u) (s.heap.objs.size + 1) s.heap.objs.size 0 .none := by
    show ((s.heap.push o).push u).get? (s.heap.objs.size + 1) = some _
    rw [he, ← hu]
  refine ⟨⟨u, he, by rw [← hu]⟩, q _ he2 ?_ (fun b ob hb => Heap.get?_push_of_some _ (Heap.get?_push_of_some _ hb))⟩
  exact ⟨o, Heap.get?_push_of_some _ (Heap.get?_push_size _ hf), by rw [← ho], by rw [← ho]; rfl⟩
end
/-- the tuple at a, which holds xs: each item with its number in a new pair -/
def Iet (K : PySem.W.Frag) (a : Addr) (xs : List V) : It :=
  ⟨fun i H => SqT K H a xs ∧ i < xs.length, fun i H v H' => ∃ T x, v = .ref T ∧ H T = none ∧ H' = upd H T (.tup [.int (i : Nat), x]) ∧ xs[i]? = some x, fun i H => SqT K H a xs ∧ xs.length ≤ i⟩
theorem turn_enumT {P : Program} {w : World} {K : PySem.W.Frag} {elts : List Expr} {kk : Nat} {tpos : Pos} (a e it : Addr) (xs : List V) :
    Turn P w K (.Tuple elts kk tpos) (Iet K a xs) [e, it] e (fun i h => (∃ old, IsEnum h e it ((i : Nat) : Int) old) ∧ h.IsTupleIter it a i ∧ (e ≠ it ∧ a ≠ it) ∧ i ≤ xs.length) where
  mem := List.mem_cons_self
  obj := by
    intro i h st b hb
    obtain ⟨⟨old, he⟩, ⟨o, ho, hc, hd⟩, _⟩ := st
    simp only [List.mem_cons, List.not_mem_nil, or_false] at hb
    rcases hb with rfl | rfl
    · exact ⟨_, he, fun v q => nomatch q⟩
    · exact ⟨o, ho, fun v q => by rw [hd] at q; cases q⟩
  keep := by
    intro i h h' st k
    obtain ⟨⟨old, he⟩, hi, hn⟩ := st
    exact ⟨⟨old, k e (by simp) _ he⟩, hi.at (fun o q => k it (by simp) o q), hn⟩
  item := by
    intro X hP hw hK hc i pins s σ H E I hf st hg
    subst hP; subst hw; subst hK
    obtain ⟨⟨old, he⟩, hit, ⟨hne, hna⟩, hle⟩ := st
    obtain ⟨hq, hx⟩ := hg
    obtain ⟨its, rv, p, hz⟩ := I.tuple hq
    obtain ⟨u, hu, ru⟩ := rv.get (List.getElem?_eq_getElem hx)
    have le := Heap.lt_size he
    have li : it < s.heap.objs.size := by obtain ⟨_, q, _⟩ := hit; exact Heap.lt_size q
    have pt : s.heap.IsTuple a its.toArray := p
    have hea : e ≠ a := fun z => by
      obtain ⟨o, h1, h2, _⟩ := pt
      rw [← z] at h1
      have := he.symm.trans h1
      cases this
      simp at h2
    have hlt : i < its.toArray.size := by
      have := (List.getElem?_eq_some_iff.mp hu).1
      simpa using this
    have D : Draws X.prog X.w X.A.in1 it [it, a] its.toArray.size (fun i v => its.toArray[i]? = some v) (fun i h => h.IsTupleIter it a i ∧ h.IsTuple a its.toArray) := Draws.tuple (show X.A.in1.handled = none from I.ok.hd hc) it a hna its.toArray
    refine wpAny_pyNext_enum_itemD D he ⟨hit, pt⟩ hlt hne (by simp [hne, hea]) fun u' h' tk hP ho hst hT hsz hk => ?_
    obtain rfl : u = u' := by
      have : its[i]? = some u' := by simpa using hP
      rw [hu] at this
      exact Option.some.inj this
    refine ⟨_, rfl, wpAny_letOwnedTupleGo_enum (s := { s with heap := h', toks := tk + 1 }) ho fun h2 he2 sb => ?_⟩
    have hT2 : h2.get? s.heap.objs.size = some { cls := .type "tuple", data := .seq #[.int i tk, u] } := (sb.2 _ (Nat.ne_of_gt le)).trans hT
    have new : ObjOk X.prog X.w (upd H s.heap.objs.size (.tup [.int (i : Nat), xs[i]])) h2 s.heap.objs.size (.tup [.int (i : Nat), xs[i]]) := ⟨size_ok (by show 2 ≤ 16777216; decide), [.int i tk, u], .cons ⟨_, rfl⟩ (.cons ru .nil), ⟨_, hT2, rfl, _, rfl⟩⟩
    have J : Inv X pins σ (upd H s.heap.objs.size (.tup [.int (i : Nat), xs[i]])) { s with heap := h2, toks := tk + 1 } :=
      I.turnedNew (t' := tk + 1) (ch := [e, it]) (fun b ob hb q => (sb.2 b (fun z => hb (by simp [z]))).trans (hk b ob (fun z => hb (by simp [z])) (fun z => hb (by simp [z])) q)) hf (Nat.le_refl _) new
    refine ⟨.ref s.heap.objs.size, _, J, rfl, ⟨_, xs[i], rfl, I.hok.fresh (Nat.le_refl _), rfl, List.getElem?_eq_getElem hx⟩, ⟨⟨u, ?_⟩, hst.1.at (fun o q => (sb.2 it (Ne.symm hne)).trans q), ⟨hne, hna⟩, hx⟩, fun b hb => ?_⟩
    · rw [show ((i + 1 : Nat) : Int) = (i : Int) + 1 by omega]
      exact he2
    · have lb : b < s.heap.objs.size := by
        simp only [List.mem_cons, List.not_mem_nil, or_false] at hb
        rcases hb with rfl | rfl
        · exact le
        · exact li
      rw [upd_ne (Nat.ne_of_lt lb)]
      exact (hf b hb).1
  done := by
    intro X hP hw hK hc i pins s σ H E I hf st hg
    subst hP; subst hw; subst hK
    obtain ⟨⟨old, he⟩, hit, ⟨hne, hna⟩, hle⟩ := st
    obtain ⟨hq, hx⟩ := hg
    obtain ⟨its, rv, p, hz⟩ := I.tuple hq
    have pt : s.heap.IsTuple a its.toArray := p
    have hl := rv.length
    have D : Draws X.prog X.w X.A.in1 it [it, a] its.toArray.size (fun i v => its.toArray[i]? = some v) (fun i h => h.IsTupleIter it a i ∧ h.IsTuple a its.toArray) := Draws.tuple (show X.A.in1.handled = none from I.ok.hd hc) it a hna its.toArray
    have hi : its.toArray.size = i := by simp; omega
    obtain ⟨f0, f1, f2, f3, f4, f5⟩ := hf it (by simp)
    refine wpAny_pyNext_enum_endD D he (by rw [hi]; exact ⟨hit, pt⟩) fun h' eb => ⟨rfl, ?_⟩
    exact I.turned (t' := s.toks) (fun b o hb q => eb b o hb q) f0 f1 f3 f4 f5
  self := by
    intro A i s Q E st q
    obtain ⟨⟨_, he⟩, _⟩ := st
    exact wpAny_pyIter_enum he q
def iEnumT (K : PySem.W.Frag) (ta : TA) : TI := fun σ H R => ta σ H fun vs H1 => ∃ a xs, vs = [.ref a] ∧ SqT K H1 a xs ∧ R (Iet K a xs) H1
theorem pi_enumT {X : Cx} {e : Expr} {ta : TA} {p pos tpos : Pos} {elts : List Expr} {kk : Nat} (hg : Gl X "enumerate") (hm : X.mg "enumerate" = none) (ha : PA X [e] ta) (hs : starEach [e] X.env = [(false, eval e X.env)] := by rfl) :
    PI X (.Tuple elts kk tpos) (.Call (.Name "enumerate" p) [e] [] pos) (iEnumT X.K ta) := by
  refine ⟨fun pins s σ H R I h => ?_⟩
  refine Call_ (ld_blt I hg hm boot_enumerate (callWith_type1 (thn (ha.run pos pins s σ H _ I h) fun us s1 ⟨vs, H1, I1, r1, q1⟩ => ?_) hs rfl))
  obtain ⟨a, xs, ex, hq, q⟩ := q1
  subst ex
  obtain ⟨u0, hu0, r0⟩ := vals1 r1
  subst hu0
  obtain rfl : u0 = Value.ref a := r0
  obtain ⟨its, rv, pt, hz⟩ := I1.tuple hq
  refine call_enumT (t := a) pt fun h' he hit hk => ?_
  refine wpAny_pyIter_enum he ?_
  have I2 : Inv X pins σ H1 { s1 with heap := h' } := I1.kept (t' := s1.toks) hk
  have na : a ≠ s1.heap.objs.size := fun z => by
    obtain ⟨o, ho, _⟩ := pt
    rw [z] at ho
    exact Nat.lt_irrefl _ (Heap.lt_size ho)
  refine ⟨s1.heap.objs.size + 1, [s1.heap.objs.size + 1, s1.heap.objs.size], _, _, H1, rfl, I2, turn_enumT a (s1.heap.objs.size + 1) s1.heap.objs.size xs, ⟨⟨.none, he⟩, hit, ⟨Nat.succ_ne_self _, na⟩, Nat.zero_le _⟩, fun b hb => ?_, q⟩
  have lb : s1.heap.objs.size ≤ b := by
    simp only [List.mem_cons, List.not_mem_nil, or_false] at hb
    rcases hb with rfl | rfl
    · exact Nat.le_add_right _ _
    · exact Nat.le_refl _
  exact I1.fpOk lb (I1.hok.fresh lb)
section
variable {ts : TS} {nx : L2.St → Hp → Prop} {rt : VK} {σ : L2.St} {H : Hp} {te : TE} {K : PySem.W.Frag}
theorem lp_enumT {a : Addr} {xs : List V} {g : TG} (Pv : Nat → L2.St → Hp → Prop) (h0 : Pv 0 σ H) (hl : ∀ i σ H, i ≤ xs.length → Pv i σ H → SqT K H a xs)
    (hs : ∀ i x σ H T, xs[i]? = some x → Pv i σ H → H T = none → g (.ref T) σ (upd H T (.tup [.int (i : Nat), x])) fun σ2 H2 => ts (Ends.mk (Pv (i + 1)) rt nx (Pv (i + 1))) σ2 H2) (hd : ∀ σ H, Pv xs.length σ H → nx σ H) : ForW (Iet K a xs) g ts nx rt σ H := by
  refine ⟨fun i m σ H => m = xs.length - i ∧ i ≤ xs.length ∧ Pv i σ H, ⟨_, rfl, Nat.zero_le _, h0⟩, ?_⟩
  rintro i m σ H ⟨rfl, hi, p⟩
  have q := hl i σ H hi p
  by_cases hc : i = xs.length
  · subst hc
    exact .inl ⟨⟨q, Nat.le_refl _⟩, hd _ _ p⟩
  · refine .inr ⟨⟨q, by omega⟩, fun σ' H' => Pv (i + 1) σ' H', fun σ' H' z => ⟨xs.length - (i + 1), by omega, rfl, by omega, z⟩, ?_⟩
    rintro v H' ⟨T, x, rfl, hT, rfl, hx⟩
    exact hs i x σ _ T hx p hT
theorem r_iEnumT {ta : TA} {R : It → Hp → Prop} (h : ta σ H fun vs H1 => ∃ a xs, vs = [.ref a] ∧ SqT K H1 a xs ∧ R (Iet K a xs) H1) : iEnumT K ta σ H R := h
end
/-! ### a op b, -a by the text's own defs; they may raise -/
section
variable {X : Cx} {CX : CXT} {k : Nat} {f C : Addr} {fd : FuncData} {ps : List Str} {sp : Sp} {E : L2.St → XK} {a b : Expr} {ta tb : TE} {pos : Pos} {op : Operator} {m : Str}
/-- the text's own op of two objects of C, whose answer is an object -/
def tBinP (C : Addr) (sp : Sp) (E : L2.St → XK) (ta tb : TE) : TE := fun σ H Q => ta σ H fun x H1 => tb σ H1 fun y H2 => ∃ a b dx dy fs gs, x = .ref a ∧ y = .ref b ∧ H2 a = some (.ins C dx fs) ∧ H2 b = some (.ins C dy gs) ∧ sp [x, y] H2 (fun v H' => ∃ r, v = .ref r ∧ Q v H') (E σ)
theorem pe_binP (hs : PySem.W.findIn X.K (.ref C) m = some (some (.ref f))) (hf : PySem.W.isFn X.K (.ref f) = true) (hc : PySem.W.selfFirst X.K C = true) (F : FnOk X.prog X.w X.K X.mg X.base CX k f fd ps sp) (hr : Room k X.A) (hb : Binds X.K fd ps []) (hx : ∀ σ, PassesAt CX X σ (E σ)) (hm : PySem.dunder op.info.2 = m)
    (pa : PE X a ta) (pb : PE X b tb) : PE X (.BinOp a op b pos) (tBinP C sp E ta tb) := by
  refine ⟨fun pins s σ H Q I h => ?_⟩
  refine wpAny_BinOp (binT pa pb I (R := fun x y H2 => ∃ a b dx dy fs gs, x = .ref a ∧ y = .ref b ∧ H2 a = some (.ins C dx fs) ∧ H2 b = some (.ins C dy gs) ∧ sp [x, y] H2 (fun v H' => ∃ r, v = .ref r ∧ Q v H') (E σ)) h fun v u s2 x y H2 I2 rx ry q => ?_)
  obtain ⟨o1, o2, dx, dy, fs, gs, rfl, rfl, h1, h2, q⟩ := q
  obtain rfl : v = Value.ref o1 := rx
  obtain rfl : u = Value.ref o2 := ry
  obtain ⟨mA, J1, _⟩ := ins_get I2.hok h1
  obtain ⟨od1, J1, _⟩ := J1.look
  obtain ⟨mB, J2, _⟩ := ins_get I2.hok h2
  obtain ⟨od2, J2, _⟩ := J2.look
  obtain ⟨m', hF⟩ := I2.fr
  refine PySem.W.binop_K hF I2.ok.mod.kin J1 J2.type hc (by rw [hm]; exact hs) hf ?_
  refine wpAny_mono (run_fnS (E := fun _ => E σ) (us := [.ref o1, .ref o2]) (vs := [.ref o1, .ref o2]) F hr hb (hx σ) I2 (.cons rfl (.cons rfl .nil)) q) (fun w' s' z => ?_) fun _ _ z => z
  obtain ⟨v', H', I', rw', r, rfl, q'⟩ := z
  obtain rfl : w' = Value.ref r := rw'
  exact ⟨.ref r, H', I', rfl, q'⟩
def tNegP (C : Addr) (sp : Sp) (E : L2.St → XK) (ta : TE) : TE := fun σ H Q => ta σ H fun x H1 => ∃ a dx fs, x = .ref a ∧ H1 a = some (.ins C dx fs) ∧ sp [x] H1 Q (E σ)
theorem pe_negP (hs : PySem.W.findIn X.K (.ref C) "__neg__" = some (some (.ref f))) (hf : PySem.W.isFn X.K (.ref f) = true) (F : FnOk X.prog X.w X.K X.mg X.base CX k f fd ps sp) (hr : Room k X.A) (hb : Binds X.K fd ps []) (hx : ∀ σ, PassesAt CX X σ (E σ))
    (pa : PE X a ta) : PE X (.UnaryOp .USub a pos) (tNegP C sp E ta) := by
  refine ⟨fun pins s σ H Q I h => ?_⟩
  refine UnaryOp_ (thn (pa.run pins s σ H _ I h) fun v s1 ⟨x, H1, I1, r1, q1⟩ => ?_)
  obtain ⟨o1, dx, fs, rfl, h1, q⟩ := q1
  obtain rfl : v = Value.ref o1 := r1
  obtain ⟨mA, J1, _⟩ := ins_get I1.hok h1
  obtain ⟨od1, J1, _⟩ := J1.look
  obtain ⟨m', hF⟩ := I1.fr
  refine PySem.W.ksp_neg hF I1.ok.mod.kin J1 hs hf ?_
  exact run_fnS (E := fun _ => E σ) (us := [.ref o1]) (vs := [.ref o1]) F hr hb (hx σ) I1 (.cons rfl .nil) q
end
section
variable {X : Cx} {tg l : Expr} {tl : TE} {K : PySem.W.Frag}
/-- a walk over a list or a tuple -/
def iSeq (K : PySem.W.Frag) (tl : TE) : TI := fun σ H R => tl σ H fun x H1 => ∃ a, x = .ref a ∧ (((∃ xs, SqL K H1 a xs) ∧ R (Itl K a) H1) ∨ ((∃ xs, SqT K H1 a xs) ∧ R (Itt K a) H1))
theorem pi_seq (hl : PE X l tl) : PI X tg l (iSeq X.K tl) := by
  refine ⟨fun pins s σ H R I h => ?_⟩
  refine thn (hl.run pins s σ H _ I h) fun v s1 z => ?_
  obtain ⟨x, H1, I1, r1, a, e, q⟩ := z
  subst e
  obtain rfl : v = Value.ref a := r1
  have fr := I1.hok.fresh (Nat.le_refl s1.heap.objs.size)
  have kp : ∀ (ob : Obj) (b : Addr) (o : Obj), s1.heap.get? b = some o → (s1.heap.push ob).get? b = some o := fun ob b o z => Heap.get?_push_of_some _ z
  have ok : ∀ b ∈ [s1.heap.objs.size], FpOk X pins H1 b := fun b hb => by
    obtain rfl := List.mem_singleton.mp hb
    exact I1.fpOk (Nat.le_refl _) fr
  rcases q with ⟨⟨xs, hq⟩, q⟩ | ⟨⟨xs, hq⟩, q⟩
  · obtain ⟨its, rv, pl, _⟩ := I1.list hq
    exact wpAny_pyIter_list pl.isList ⟨s1.heap.objs.size, [s1.heap.objs.size], _, _, H1, rfl, I1.kept (t' := s1.toks) (kp _), turn_list a _, ⟨_, Heap.get?_push_size _ rfl, rfl, rfl⟩, ok, q⟩
  · obtain ⟨its, rv, pt, _⟩ := I1.tuple hq
    exact wpAny_pyIter_tuple (show s1.heap.IsTuple a its.toArray from pt) ⟨s1.heap.objs.size, [s1.heap.objs.size], _, _, H1, rfl, I1.kept (t' := s1.toks) (kp _), turn_tuple a _, ⟨_, Heap.get?_push_size _ rfl, rfl, rfl⟩, ok, q⟩
theorem sqT_same {K : PySem.W.Frag} {H H' : Hp} {a : Addr} {xs : List V} (e : Same H H') (h : SqT K H a xs) : SqT K H' a xs := by
  rcases h with h | h
  · rcases h with h | h
    · exact .inl (.inl (e _ _ h))
    · obtain ⟨o, h⟩ := h
      exact .inl (.inr ⟨o, e _ _ h⟩)
  · exact .inr h
theorem sqT_fr {K : PySem.W.Frag} {H H' : Hp} {a st : Addr} {xs : List V} (f : Fr st H H') (S : StoreAt H st) (h : SqT K H a xs) : SqT K H' a xs := by
  obtain ⟨l, ns, u1, u2, u3, u4, u5, h1, _⟩ := S
  rcases h with h | h
  · rcases h with h | h
    · exact .inl (.inl (f.k _ _ (fun z => by rw [z, h1] at h; cases h) h))
    · obtain ⟨o, h⟩ := h
      exact .inl (.inr ⟨o, f.k _ _ (fun z => by rw [z, h1] at h; cases h) h⟩)
  · exact .inr h
/-- a list or a tuple of these values stands at a -/
def SqA (K : PySem.W.Frag) (H : Hp) (a : Addr) (xs : List V) : Prop := SqL K H a xs ∨ SqT K H a xs
theorem r_iSeq {R : It → Hp → Prop} {σ : L2.St} {H : Hp} (h : tl σ H fun x H1 => ∃ a, x = .ref a ∧ (((∃ xs, SqL K H1 a xs) ∧ R (Itl K a) H1) ∨ ((∃ xs, SqT K H1 a xs) ∧ R (Itt K a) H1))) : iSeq K tl σ H R := h
end
section
variable {ts : TS} {nx : L2.St → Hp → Prop} {rt : VK} {σ : L2.St} {H : Hp} {te : TE} {K : PySem.W.Frag}
theorem lp_seq {a : Addr} {xs : List V} {g : TG} (Pv : Nat → L2.St → Hp → Prop) (h0 : Pv 0 σ H) (hl : SqA K H a xs) (hk : ∀ i σ' H', i ≤ xs.length → Pv i σ' H' → Same H H')
    (hs : ∀ i x σ H, xs[i]? = some x → Pv i σ H → g x σ H fun σ2 H2 => ts (Ends.mk (Pv (i + 1)) rt nx (Pv (i + 1))) σ2 H2) (hd : ∀ σ H, Pv xs.length σ H → nx σ H) :
    ∃ a', V.ref a = .ref a' ∧ (((∃ xs, SqL K H a' xs) ∧ ForW (Itl K a') g ts nx rt σ H) ∨ ((∃ xs, SqT K H a' xs) ∧ ForW (Itt K a') g ts nx rt σ H)) := by
  refine ⟨a, rfl, ?_⟩
  rcases hl with hl | hl
  · exact .inl ⟨⟨xs, hl⟩, lp_list (xs := xs) Pv h0 (fun i σ' H' hi p => (hk i σ' H' hi p).seq hl) hs hd⟩
  · exact .inr ⟨⟨xs, hl⟩, lp_tup (xs := xs) Pv h0 (fun i σ' H' hi p => sqT_same (hk i σ' H' hi p) hl) hs hd⟩
end
/-! ### t[::-1], t a tuple -/
section
open HT
variable {prog : Program} {w : World} {A : Around} {E : Value → Shared → Prop} {s : Shared}
theorem adjust_back (n : Nat) : Builtin.Slice.sliceAdjust none none (-1) (n : Int) = ((n : Int) - 1, -1) := by
  unfold Builtin.Slice.sliceAdjust
  simp
theorem places_back (n : Nat) : Builtin.Slice.slicePlaces ((n : Int) - 1) (-1) (-1) = n := by
  unfold Builtin.Slice.slicePlaces
  rw [if_neg (by decide)]
  split
  · rw [show -(-1 : Int) = 1 from rfl, Int.ediv_one]
    omega
  · show 0 = n
    omega
theorem applied_back {sl : Addr} {vl vu vs : Value} {n : Nat} {Q : Int × Int × Nat → Shared → Prop} (hs : s.heap.IsSliceOf sl vl vu vs) (pl : IsPart vl none) (pu : IsPart vu none) (ps : IsPart vs (some (-1)))
    (q : Q ((n : Int) - 1, -1, n) s) : wpAny (model prog w) A (Builtin.Slice.sliceApplied (.ref sl) (pure (n : Int))) Q E s := by
  obtain ⟨ob, h1, h2, h3⟩ := id hs
  unfold Builtin.Slice.sliceApplied Builtin.Slice.sliceFields
  refine wpAny_bind (wpAny_bind (wpAny_field h1 h3 (x := vl) rfl ?_))
  refine wpAny_bind (wpAny_field h1 h3 (x := vu) rfl ?_)
  refine wpAny_bind (wpAny_field h1 h3 (x := vs) rfl ?_)
  refine wpAny_pure ?_
  refine wpAny_bind (slicePart_ ps ?_)
  show wpAny _ _ (if ((-1 : Int) == 0) = true then _ else _) _ _ s
  rw [if_neg (by decide)]
  refine wpAny_bind (slicePart_ pl ?_)
  refine wpAny_bind (slicePart_ pu ?_)
  refine wpAny_bind (wpAny_pure ?_)
  show wpAny _ _ (match Builtin.Slice.sliceAdjust none none (-1) (n : Int) with | (l, u) => pure (l, (-1 : Int), Builtin.Slice.slicePlaces l u (-1))) _ _ s
  rw [adjust_back]
  show wpAny _ _ (pure ((n : Int) - 1, (-1 : Int), Builtin.Slice.slicePlaces ((n : Int) - 1) (-1) (-1))) _ _ s
  rw [places_back]
  exact wpAny_pure q
theorem pick_back {α : Type} (xs : List α) : (List.range xs.length).filterMap (fun (k : Nat) => xs[((xs.length : Int) - 1 + (k : Int) * (-1)).toNat]?) = xs.reverse := by
  have h : ∀ n, n ≤ xs.length → (List.range n).filterMap (fun (k : Nat) => xs[((xs.length : Int) - 1 + (k : Int) * (-1)).toNat]?) = xs.reverse.take n := by
    intro n
    induction n with
    | zero => intro _; simp
    | succ n ih =>
      intro hn
      rw [List.range_succ, List.filterMap_append, ih (by omega), List.take_add_one]
      have e : ((xs.length : Int) - 1 + (n : Int) * (-1)).toNat = xs.length - 1 - n := by omega
      have e2 : xs.reverse[n]? = xs[xs.length - 1 - n]? := List.getElem?_reverse (by omega)
      rw [e2]
      have hlt : xs.length - 1 - n < xs.length := by omega
      have e3 : [n].filterMap (fun (k : Nat) => xs[((xs.length : Int) - 1 + (k : Int) * (-1)).toNat]?) = [xs[xs.length - 1 - n]] := by
        rw [List.filterMap_cons, e, List.getElem?_eq_getElem hlt]
        rfl
      rw [e3, List.getElem?_eq_getElem hlt]
      rfl
  rw [h _ (Nat.le_refl _)]
  exact List.take_of_length_le (by simp)
theorem get_back {t sl : Addr} {its : List Value} {vl vu vs : Value} {Q : Value → Shared → Prop} (ht : IsTup s.heap t its.toArray) (hs : s.heap.IsSliceOf sl vl vu vs) (pl : IsPart vl none) (pu : IsPart vu none) (ps : IsPart vs (some (-1)))
    (q : Q (.ref s.heap.objs.size) { s with heap := s.heap.push { cls := .type "tuple", data := .seq its.reverse.toArray } }) (hz : its.length ≤ sizeLine) : wpAny (model prog w) A (getItem (.ref t) (.ref sl)) Q E s := by
  obtain ⟨ob, h1, h2, h3⟩ := id hs
  have ty : s.TypeIs (.ref sl) "slice" := ⟨ob, h1, h2⟩
  have fits : sizeOk (.seq its.reverse.toArray) := by
    show its.reverse.toArray.size ≤ sizeLine
    rw [List.size_toArray, List.length_reverse]
    exact hz
  unfold getItem
  refine wpAny_holding ?_
  refine wpAny_bind (wpAny_sequenceKey ht.typeIs (by decide) ?_)
  refine wpAny_bind (wpAny_callSpecial?_slot (name := Str.ofString "__getitem__") ht.typeIs slot_tuple_getitem ?_)
  refine wpAny_call_entry slot_tuple_getitem ht.typeIs entry_tuple_getitem ?_ (args_tuple_getitem _ _)
  show wpAny _ _ (Builtin.Tuple.tupleItemsOf (.ref t) >>= _) _ _ s
  refine wpAny_bind (tupleItemsOf_ ht (wpAny_bind (wpAny_typeOf ty ?_)))
  rw [if_pos (by decide)]
  have sz : its.toArray.size = its.length := List.size_toArray
  refine wpAny_bind (applied_back (n := its.toArray.size) hs pl pu ps ?_)
  have no : ¬ (((its.toArray.size : Int) - 1 == 0 && (-1 : Int) == 1 && its.toArray.size == its.toArray.size) = true) := by simp
  show wpAny _ _ (if ((its.toArray.size : Int) - 1 == 0 && (-1 : Int) == 1 && its.toArray.size == its.toArray.size) = true then _ else _) _ _ s
  rw [if_neg no]
  have pk : ((List.range its.toArray.size).filterMap fun (k : Nat) => its.toArray[((its.toArray.size : Int) - 1 + (k : Int) * (-1)).toNat]?) = its.reverse := by
    rw [sz]
    simp only [List.getElem?_toArray]
    exact pick_back its
  rw [pk]
  first
    | exact wpAny_bind (m := Builtin.Tuple.tupleExact _) (wpAny_newObj_type (wpAny_pure ⟨_, rfl, wpAny_pure q⟩) fits)
    | exact wpAny_bind (m := Builtin.Tuple.tupleExact _) (wpAny_newObj_type (wpAny_bind (wpAny_pure (wpAny_pure ⟨_, rfl, wpAny_pure q⟩))) fits)
    | exact wpAny_bind (wpAny_bind (m := Builtin.Tuple.tupleExact _) (wpAny_newObj_type (wpAny_pure (wpAny_pure ⟨_, rfl, wpAny_pure q⟩)) fits))
    | exact wpAny_bind (wpAny_bind (m := Builtin.Tuple.tupleExact _) (wpAny_newObj_type (wpAny_pure ⟨_, rfl, wpAny_pure q⟩) fits))
end
section
variable {X : Cx}
def tRevT (K : PySem.W.Frag) (te : TE) : TE := fun σ H Q => te σ H fun x H1 => ∃ a xs, x = .ref a ∧ SqT K H1 a xs ∧ ∀ p, H1 p = none → Q (.ref p) (upd H1 p (.tup xs.reverse))
theorem pe_revT {e : Expr} {te : TE} {k : Nat} {p1 p2 p3 pos : Pos} (he : PE X e te) : PE X (.Subscript e (.Slice none none (some (.UnaryOp .USub (.Constant (.int 1) k p1) p2)) p3) pos) (tRevT X.K te) := by
  refine ⟨fun pins s σ H Q I h => ?_⟩
  refine Subscript_ (thn (he.run pins s σ H _ I h) fun v s1 z => ?_)
  obtain ⟨x, H1, I1, r1, a, xs, ex, hx, q⟩ := z
  subst ex
  obtain rfl : v = Value.ref a := r1
  have st : PO X (some (.UnaryOp .USub (.Constant (.int 1) k p1) p2)) (tPart (tUn (rU fun i => .int (-i)) (tC (.int 1)))) := po_some (pe_un un_neg pe_int)
  refine wpAny_Slice (thn (po_none.run pins s1 σ H1 (fun o H2 => o = none ∧ H2 = H1) I1 ⟨rfl, rfl⟩) fun vl s2 z => ?_)
  obtain ⟨l, H2, I2, pl, el, e2⟩ := z
  subst el; subst e2
  refine thn (po_none.run pins s2 σ H2 (fun o H3 => o = none ∧ H3 = H2) I2 ⟨rfl, rfl⟩) fun vu s3 z => ?_
  obtain ⟨u, H3, I3, pu, eu, e3⟩ := z
  subst eu; subst e3
  refine thn (st.run pins s3 σ H3 (fun o H4 => o = some (-1) ∧ H4 = H3) I3 ⟨1, rfl, -1, rfl, rfl, rfl⟩) fun vs s4 z => ?_
  obtain ⟨o, H4, I4, ps, eo, e4⟩ := z
  subst eo; subst e4
  have I5 : Inv X pins σ H4 { s4 with heap := s4.heap.push { cls := .type "slice", data := .fields #[vl, vu, vs] } } := I4.kept (t' := s4.toks) (fun b ob z => Heap.get?_push_of_some _ z)
  obtain ⟨its, r, ht, hz⟩ := I5.tuple hx
  have hlen := r.length
  show wpAny (model X.prog X.w) X.A (subscriptTail e (.Slice none none (some (.UnaryOp .USub (.Constant (.int 1) k p1) p2)) p3) (.ref a) (.ref s4.heap.objs.size)) (EP X pins σ Q) X.xe { s4 with heap := s4.heap.push { cls := .type "slice", data := .fields #[vl, vu, vs] } }
  refine tail_any (ops := [.ref a, .ref s4.heap.objs.size]) ht.typeIs (slot_tuple_getitem.lookup) ?_ (by with_unfolding_all rfl)
  refine get_back ht (Heap.IsSliceOf.new _ vl vu vs) pl pu ps ?_ (by omega)
  refine ⟨.ref _, _, I5.laid (t' := s4.toks) (o := .tup xs.reverse) (fun b ob z => Heap.get?_push_of_some _ z) (Nat.le_refl _) ?_, rfl, q _ (I5.hok.fresh (Nat.le_refl _))⟩
  exact ⟨by rw [List.length_reverse]; exact hz, _, r.reverse, IsTup.new _ _⟩
theorem r_revT {K : PySem.W.Frag} {te : TE} {σ : L2.St} {H : Hp} {Q : VK} (h : te σ H fun x H1 => ∃ a xs, x = .ref a ∧ SqT K H1 a xs ∧ ∀ p, H1 p = none → Q (.ref p) (upd H1 p (.tup xs.reverse))) : tRevT K te σ H Q := h
end
/-! ### a list or a tuple: readings -/
section
variable {K : PySem.W.Frag} {H H' : Hp} {Q : VK} {a : Addr} {xs : List V}
theorem sqA_same (e : Same H H') (h : SqA K H a xs) : SqA K H' a xs := h.elim (fun h => .inl (e.seq h)) (fun h => .inr (sqT_same e h))
theorem r_ixA {z : Int} {v : V} (h : SqA K H a xs) (e : atI xs z = some v) (q : Q v H) : rIx K (.ref a) (.int z) H Q := h.elim (fun h => r_ixSL h e q) (fun h => r_ixST h e q)
theorem r_lenA (h : SqA K H a xs) (q : Q (.int xs.length) H) : rLenS K [.ref a] H Q := h.elim (fun h => r_len h q) (fun h => r_lenT h q)
theorem r_slA {lo hi : Option Int} (h : SqA K H a xs) (q : ∀ t H', Same H H' → SqA K H' t (cutV xs lo hi) → Q (.ref t) H') : rSlL K (.ref a) lo hi H Q ∨ rSlA K (.ref a) lo hi H Q := by
  rcases h with h | h
  · exact .inl ⟨a, xs, rfl, h, fun p n => q p _ (same_new n) (.inl (sq_of upd_same))⟩
  · refine .inr ⟨a, xs, rfl, h, fun z => q a H (Same.refl _) (.inr ?_), fun _ p n => q p _ (same_new n) (.inr (st_of upd_same))⟩
    have e : cutV xs lo hi = xs := by
      unfold cutV
      rw [z.1, z.2]
      simp
    rw [e]
    exact h
theorem r_tupA (h : SqA K H a xs) (q : ∀ t H', Same H H' → SqT K H' t xs → Q (.ref t) H') : rTup K [.ref a] H Q := by
  rcases h with h | h
  · exact r_tupL h fun l n => q l _ (same_new n) (st_of upd_same)
  · exact r_tupT h (q a H (Same.refl _) h)
theorem sqT_upd {o : HO} {C dx : Addr} {fs : List (Str × V)} {b : Addr} (h : SqT K H a xs) (g : H b = some (.ins C dx fs)) : SqT K (upd H b o) a xs := by
  rcases h with h | h
  · rcases h with h | h
    · exact .inl (.inl (h_ne (fun z => by rw [z, g] at h; cases h) h))
    · obtain ⟨u, h⟩ := h
      exact .inl (.inr ⟨u, h_ne (fun z => by rw [z, g] at h; cases h) h⟩)
  · exact .inr h
theorem r_gT2 {σ : L2.St} {C : L2.St → Hp → Prop} {T : Addr} {u v : V} {i j : Nat} (h : SqT K H T [u, v]) (q : C ((σ.set i (some u)).set j (some v)) H) : gTup K 2 (gCons (gName i) (gCons (gName j) gNil)) (.ref T) σ H C := ⟨T, _, rfl, h, rfl, u, _, rfl, v, _, rfl, rfl, q⟩
theorem cut_take {n : Nat} (h : n ≤ xs.length) : cutV xs none (some (n : Int)) = xs.take n := by
  unfold cutV
  have e : HT.sIx xs.length xs.length (some (n : Int)) = n := by
    rw [HT.sIx_nat]
    exact Nat.min_eq_left h
  have e0 : HT.sIx xs.length 0 none = 0 := by
    unfold HT.sIx
    simp
  rw [e, e0]
  simp
end
theorem pe_fldK {X : Cx} {K : PySem.W.Frag} {e : Expr} {f : Str} {pos : Pos} {ta : TE} (hK : X.K = K) (he : PE X e ta) (hb : attributeBase e f X.env (eval e X.env) = eval e X.env) : PE X (.Attribute e f pos) (tFld K ta f) := by
  subst hK
  exact pe_fld he hb
theorem ix_listK {X : Cx} {K : PySem.W.Frag} (hK : X.K = K) : IxR X (rIxL K) := by
  subst hK
  exact ix_list
end Vb
namespace Vb
open PySem PySem.Spec PyProof.Rows L2
/-! ### an own class whose __iter__ hands on a tuple's iterator -/
/-- a heap with room up to n behind it: nothing more stands in it -/
def padB (b : Heap) (n : Nat) : Heap := { b with objs := b.objs ++ Array.replicate (n - b.objs.size) { cls := .none, data := .freed } }
theorem padB_get (b : Heap) (n : Nat) (a : Addr) : (padB b n).get? a = b.get? a := by
  unfold Heap.get? padB
  by_cases h : a < b.objs.size
  · simp only [Array.getElem?_append_left h]
  · have e : b.objs[a]? = none := Array.getElem?_eq_none (Nat.le_of_not_lt h)
    have e2 : (b.objs ++ Array.replicate (n - b.objs.size) ({ cls := .none, data := .freed } : Obj))[a]? = none ∨ (b.objs ++ Array.replicate (n - b.objs.size) ({ cls := .none, data := .freed } : Obj))[a]? = some { cls := .none, data := .freed } := by
      rw [Array.getElem?_append_right (Nat.le_of_not_lt h), Array.getElem?_replicate]
      split
      · exact .inr rfl
      · exact .inl rfl
    rcases e2 with e2 | e2 <;> simp only [e, e2]
theorem padB_size {b : Heap} {n : Nat} (h : b.objs.size ≤ n) : (padB b n).objs.size = n := by
  show (b.objs ++ Array.replicate (n - b.objs.size) _).size = n
  rw [Array.size_append, Array.size_replicate]
  omega
theorem padB_keep {b : Heap} {n : Nat} : ∀ a o, b.get? a = some o → (padB b n).get? a = some o := fun a o e => (padB_get b n a).trans e
theorem padB_mod {K : PySem.W.Frag} {mg : Str → Option Value} {b : Heap} {n : Nat} (m : Mod K mg b) : Mod K mg (padB b n) := by
  obtain ⟨mb, h1, h2⟩ := m.blt
  exact ⟨m.kin.keeps padB_keep, m.glob.keeps padB_keep, ⟨mb, h1.keeps padB_keep, h2⟩, m.nolimit.keeps padB_keep⟩
theorem padB_funs {b h : Heap} {n : Nat} : ∀ {l : List Env}, h.FunFrames b l → h.FunFrames (padB b n) l
  | [], q => q
  | e :: l, ⟨k, ⟨L, o, f, g, r⟩, q⟩ => ⟨k, ⟨L, o, f, (padB_get b n L).trans g, r⟩, padB_funs q⟩
theorem padB_env {P : Program} {w : World} {K : PySem.W.Frag} {mg : Str → Option Value} {base : Heap} {A : Around} {outer : List Env} {s : Shared} {H : Hp} (e : Env0 P w K mg base A outer s H) : Env0 P w K mg (padB base s.heap.objs.size) A outer s H :=
  ⟨e.frames, padB_mod e.mod, fun b o z => e.bs b o ((padB_get _ _ b).symm.trans z), by rw [padB_size e.bsz]; exact Nat.le_refl _, padB_funs e.funs, e.frf, e.hok, e.bare⟩
/-- at it an iterator over the tuple at t, the next place is i -/
def TiO (t it : Addr) (i : Nat) : HO := .ext fun h => h.IsTupleIter it t i
theorem tiO_ok {P : Program} {w : World} {H : Hp} {h : Heap} {t it : Addr} {i : Nat} (e : h.IsTupleIter it t i) : ObjOk P w H h it (TiO t it i) := ⟨e, e.elim fun o z => ⟨o, z.1⟩, fun _ _ q k => q.at (fun o z => k _ z)⟩
def rIterT (K : PySem.W.Frag) (n : Nat) : List V → Hp → VK → Prop := fun xs H Q => ∃ (t : Addr) (zs : List V), xs = [.ref t] ∧ SqT K H t zs ∧ ∀ it, H it = none → n ≤ it → Q (.ref it) (upd H it (TiO t it 0))
theorem call_iterT {X : Cx} : CallR X (.builtin "iter") (rIterT X.K X.base.objs.size) := by
  intro pins s σ H xs us Q I r h
  obtain ⟨t, zs, rfl, hq, q⟩ := h
  obtain rfl := Vals.ref1 r
  obtain ⟨its, rv, pt, hz⟩ := I.tuple hq
  refine Calls.call_function_entry (by decide +kernel) (by decide +kernel) PySem.W.kdk_entry_iter (PySem.W.kdk_args_iter _) ?_
  unfold Builtin.«iter»
  refine wpAny_bind (m := someArgs "iter" 1 2 _) (wpAny_of_eq (a := [Value.ref t]) (by first | rfl | kernel_rfl!) ?_)
  show wpAny _ _ (pyIter (.ref t) >>= _) _ _ _
  refine wpAny_bind (wpAny_pyIter_tuple (show s.heap.IsTuple t its.toArray from pt) (wpAny_pure ⟨_, rfl, ?_⟩))
  have z : (s.heap.push { cls := .type "tuple_iterator", data := .fields #[.ref t, .int 0 0] }).IsTupleIter s.heap.objs.size t 0 := ⟨_, Heap.get?_push_size _ rfl, rfl, rfl⟩
  exact ⟨.ref s.heap.objs.size, _, I.laid (t' := s.toks) (fun b u e => Heap.get?_push_of_some _ e) (Nat.le_refl _) (tiO_ok z), rfl, q _ (I.hok.fresh (Nat.le_refl _)) (Nat.le_trans I.ok.bsz I.sz)⟩
/-- what such an __iter__ promises, its attribute told -/
def sp_iter (K : PySem.W.Frag) (C : Addr) (at_ : Str) (n : Nat) : Sp := fun vs H Q _ => ∃ (a dx t : Addr) (fs : List (Str × V)) (zs : List V), vs = [.ref a] ∧ H a = some (.ins C dx fs) ∧ fs.lookup at_ = some (.ref t) ∧ SqT K H t zs ∧
  ∀ it, H it = none → n ≤ it → Q (.ref it) (upd H it (TiO t it 0))
section
variable {X : Cx} {k : Nat} {f C : Addr} {fd : FuncData} {ps : List Str} {at_ : Str} {tg e : Expr} {te : TE}
/-- __iter__ is called: behind it its iterator stands, younger than the call -/
theorem own_pyIter {pins : List (Addr × Obj)} {s : Shared} {σ : L2.St} {H : Hp} {a dx t : Addr} {fs : List (Str × V)} {zs : List V} {A1 : Around} {Q E : Value → Shared → Prop} (hs : PySem.W.findIn X.K (.ref C) "__iter__" = some (some (.ref f))) (hf : PySem.W.isFn X.K (.ref f) = true)
    (F : ∀ b : Heap, FnOk X.prog X.w X.K X.mg b (L2N.CX X.prog X.w) k f fd ps (sp_iter X.K C at_ b.objs.size)) (sb : Sub X k A1) (hb : Binds X.K fd ps []) (I : Inv X pins σ H s) (ha : H a = some (.ins C dx fs)) (hl : fs.lookup at_ = some (.ref t)) (ht : SqT X.K H t zs)
    (herr : ∀ e s', X.xe e s' → E e s') (hq : ∀ it s', Inv X pins σ (upd H it (TiO t it 0)) s' → H it = none → s.heap.objs.size ≤ it → Q (.ref it) s') : wpAny (model X.prog X.w) A1 (pyIter (.ref a)) Q E s := by
  obtain ⟨mA, J, _⟩ := ins_get I.hok ha
  obtain ⟨od, J, _⟩ := J.look
  obtain ⟨m0, hF⟩ := I.fr
  refine PySem.W.owit_iter hF I.ok.mod.kin J hs hf ?_
  have e0 : Env0 X.prog X.w X.K X.mg (padB X.base s.heap.objs.size) A1 X.stack s H := by
    have e := I.env0
    refine padB_env ⟨?_, e.mod, e.bs, e.bsz, e.funs, e.frf, e.hok, e.bare⟩
    rw [sb.fr]
    exact e.frames
  have r2 : Vals [V.ref a] [Value.ref a] := .cons rfl .nil
  have hsp : sp_iter X.K C at_ (padB X.base s.heap.objs.size).objs.size [.ref a] H (fun v H' => ∃ it, v = .ref it ∧ H' = upd H it (TiO t it 0) ∧ H it = none ∧ s.heap.objs.size ≤ it) E0 :=
    ⟨a, dx, t, fs, zs, rfl, ha, hl, ht, fun it n1 n2 => ⟨it, rfl, rfl, n1, by rw [padB_size (Nat.le_trans I.ok.bsz I.sz)] at n2; exact n2⟩⟩
  have hlen := (F _).len _ _ _ _ hsp
  refine wpAny_call (codeAny_mono ((F _).run A1 X.stack s H ⟨[.ref a], []⟩ [.ref a] [.ref a] _ E0 sb.room e0 (by
    have z := hb s [.ref a] I.kIn (by simpa using hlen)
    simpa using z) r2 hsp) fun r s' hq' => ?_)
  cases r with
  | error e => exact herr e s' (pass5 (X := X) pins σ H s e s' I hq')
  | ok fl =>
    cases fl with
    | next => exact False.elim hq'
    | brk => exact False.elim hq'
    | cont => exact False.elim hq'
    | ret u =>
      obtain ⟨v, H', I', rv, it, ev, eH, n1, n2⟩ := I.after hq'
      subst ev
      subst eH
      cases rv
      have st : s'.heap.IsTupleIter it t 0 := (I'.hok it _ upd_same).1
      unfold PySem.W.OwitIt
      exact wpAny_specialOf (name := "__next__") st.typeIs PySem.F.slot_tuple_iterator_next.lookup (hq it s' I' n1 n2)
end
end Vb
namespace Vb
open PySem PySem.Spec PyProof.Rows L2
section
variable {X : Cx} {k : Nat} {f C : Addr} {fd : FuncData} {ps : List Str} {at_ : Str} {tg e : Expr} {te : TE}
/-- a walk over such an object -/
def iOwn (K : PySem.W.Frag) (C : Addr) (at_ : Str) (te : TE) : TI := fun σ H R => te σ H fun x H1 => ∃ (a dx t : Addr) (fs : List (Str × V)) (zs : List V), x = .ref a ∧ H1 a = some (.ins C dx fs) ∧ fs.lookup at_ = some (.ref t) ∧ SqT K H1 t zs ∧ R (Itt K t) H1
theorem pi_own (hs : PySem.W.findIn X.K (.ref C) "__iter__" = some (some (.ref f))) (hf : PySem.W.isFn X.K (.ref f) = true) (F : ∀ b : Heap, FnOk X.prog X.w X.K X.mg b (L2N.CX X.prog X.w) k f fd ps (sp_iter X.K C at_ b.objs.size)) (hr : Room k X.A) (hb : Binds X.K fd ps []) (he : PE X e te) : PI X tg e (iOwn X.K C at_ te) := by
  refine ⟨fun pins s σ H R I h => ?_⟩
  refine thn (he.run pins s σ H _ I h) fun v s1 z => ?_
  obtain ⟨x, H1, I1, r1, a, dx, t, fs, zs, ex, ha, hl, ht, q⟩ := z
  subst ex
  obtain rfl : v = Value.ref a := r1
  refine own_pyIter hs hf F ⟨hr, rfl⟩ hb I1 ha hl ht (fun _ _ z => z) fun it s2 I2 n1 n2 => ?_
  have st : s2.heap.IsTupleIter it t 0 := (I2.hok it _ upd_same).1
  have I3 := ItX.inv_drop I2 (show upd H1 it (TiO t it 0) it = some (.ext _) from upd_same)
  have fp := ItX.inv_fp I2 (u := TiO t it 0) upd_same (Nat.le_trans I1.sz n2)
  rw [ItX.dropH_upd n1] at I3 fp
  refine ⟨it, [it], _, _, H1, rfl, I3, turn_tuple t it, st, fun b hb => ?_, q⟩
  obtain rfl := List.mem_singleton.mp hb
  exact fp
theorem r_iOwn {K : PySem.W.Frag} {σ : L2.St} {H : Hp} {R : It → Hp → Prop} (h : te σ H fun x H1 => ∃ (a dx t : Addr) (fs : List (Str × V)) (zs : List V), x = .ref a ∧ H1 a = some (.ins C dx fs) ∧ fs.lookup at_ = some (.ref t) ∧ SqT K H1 t zs ∧ R (Itt K t) H1) : iOwn K C at_ te σ H R := h
/-- the list at q is filled by the iterator at it -/
theorem ti_loop {pins : List (Addr × Obj)} {σ : L2.St} {H : Hp} {t it q : Addr} {zs : List V} {A1 : Around} {Rs : Result → Shared → Prop} (hA : A1.in1.handled = none) (hn : H it = none) (hq0 : H q = none) (ne : q ≠ it) (hit : X.s_0.heap.objs.size ≤ it) (ht : SqT X.K H t zs) (hz : zs.length ≤ 1000000)
    (herr : ∀ e s, X.xe e s → Rs (.error e) s) (hdone : ∀ s, Inv X pins σ (upd H q (.lst zs)) s → Rs (.ok (.ret .none)) s) :
    ∀ (m i : Nat) (Hs : Hp) (s : Shared), m = zs.length - i → i ≤ zs.length → Hs q = some (.lst (zs.take i)) → Hs it = some (TiO t it i) → (∀ b, b ≠ q → b ≠ it → Hs b = H b) → Inv X pins σ Hs s → codeAny (model X.prog X.w) A1 (.builtin "list.extend.loop" ⟨[.ref q, .ref it, .none], []⟩) Rs s := by
  intro m
  induction m with
  | zero =>
    intro i Hs s hm hi e1 e2 e3 I
    obtain rfl : i = zs.length := by omega
    have st : s.heap.IsTupleIter it t zs.length := (I.hok it _ e2).1
    have sm : Same H Hs := fun b o hb => (e3 b (fun z => by rw [z, hq0] at hb; cases hb) (fun z => by rw [z, hn] at hb; cases hb)).trans hb
    obtain ⟨its, rv, pt, _⟩ := I.tuple (same_sqt sm ht)
    have hl := rv.length
    have I1 := ItX.inv_drop I (show Hs it = some (.ext _) from e2)
    have fp := ItX.inv_fp I e2 hit
    have eH : ItX.dropH Hs it = upd H q (.lst zs) := by
      funext b
      by_cases hb : b = it
      · rw [hb, ItX.dropH_same, upd_ne (Ne.symm ne), hn]
      · rw [ItX.dropH_ne hb]
        by_cases hc : b = q
        · rw [hc, upd_same, e1, List.take_length]
        · rw [upd_ne hc, e3 b hc hb]
    rw [eH] at I1 fp
    obtain ⟨f0, f1, f2, f3, f4, f5⟩ := fp
    refine codeAny_builtin PySem.F.entry_extend_loop ?_
    rw [Around.under_plainId PySem.F.plain_extend_loop _]
    show wpAny _ A1.in1 (pyNext (.ref it) >>= _) _ _ s
    refine wpAny_bind (wpAny_pyNext_tuple_end hA st (show s.heap.IsTuple t its.toArray from pt) (by simp; omega) fun h' eb => wpAny_pure (hdone _ (I1.turned (t' := s.toks) (fun b o hb z => eb b o hb z) f0 f1 f3 f4 f5)))
  | succ m ih =>
    intro i Hs s hm hi e1 e2 e3 I
    have st : s.heap.IsTupleIter it t i := (I.hok it _ e2).1
    have sm : Same H Hs := fun b o hb => (e3 b (fun z => by rw [z, hq0] at hb; cases hb) (fun z => by rw [z, hn] at hb; cases hb)).trans hb
    obtain ⟨its, rv, pt, _⟩ := I.tuple (same_sqt sm ht)
    have hl := rv.length
    obtain ⟨u, hu, ru⟩ := rv.get (List.getElem?_eq_getElem (by omega : i < zs.length))
    refine codeAny_builtin PySem.F.entry_extend_loop ?_
    rw [Around.under_plainId PySem.F.plain_extend_loop _]
    show wpAny _ A1.in1 (pyNext (.ref it) >>= _) _ _ s
    refine wpAny_bind (wpAny_pyNext_tuple_item st (show s.heap.IsTuple t its.toArray from pt) (x := u) (by simpa using hu) fun h' st' sb => ?_)
    have I1 : Inv X pins σ (upd Hs it (TiO t it (i + 1))) { s with heap := h' } := I.write (x := it) (e := it) (t' := s.toks) (by rw [e2]; exact True.intro) (.inl rfl) (fun b o nb z => (sb.2 b nb).trans z) (st'.elim fun o z => ⟨o, z.1⟩) (tiO_ok st')
    have e1' : upd Hs it (TiO t it (i + 1)) q = some (.lst (zs.take i)) := by rw [upd_ne ne]; exact e1
    show wpAny _ A1.in1 (updateSeq q (·.push u) >>= _) _ _ _
    obtain ⟨z, its2, k2, r2, hl2, ee⟩ := I1.lstM e1'
    have hts : (zs.take i).length = i := by rw [List.length_take]; omega
    refine wpAny_bind (wpAny_updateSeq ee rfl (wpAny_pure ⟨plainId_quiet PySem.F.plain_extend_loop _, ?_⟩) (by rw [List.size_toArray, sizeLine_eq]; omega) (by show (its2.toArray.push u).size ≤ sizeLine + 1; rw [Array.size_push, List.size_toArray, sizeLine_eq]; omega))
    have et : zs.take (i + 1) = zs.take i ++ [zs[i]] := by rw [List.take_add_one, List.getElem?_eq_getElem (by omega : i < zs.length)]; rfl
    refine ih (i + 1) (upd (upd Hs it (TiO t it (i + 1))) q (.lst (zs.take (i + 1)))) _ (by omega) (by omega) upd_same (by rw [upd_ne (Ne.symm ne), upd_same]) (fun b h1 h2 => by rw [upd_ne h1, upd_ne h2, e3 b h1 h2]) ?_
    exact I1.lset (its' := its2 ++ [u]) (t' := s.toks) e1' ee (by simp) (by rw [et]; exact r2.append (.cons ru .nil)) (by rw [List.length_take, sizeLine_eq]; omega)
/-- list(o) -/
def rListOwn (K : PySem.W.Frag) (C : Addr) (at_ : Str) : List V → Hp → VK → Prop := fun xs H Q => ∃ (a dx t : Addr) (fs : List (Str × V)) (zs : List V), xs = [.ref a] ∧ H a = some (.ins C dx fs) ∧ fs.lookup at_ = some (.ref t) ∧ SqT K H t zs ∧ zs.length ≤ 1000000 ∧ ∀ q, H q = none → Q (.ref q) (upd H q (.lst zs))
theorem call_listIt (hc : X.calm = true) (hs : PySem.W.findIn X.K (.ref C) "__iter__" = some (some (.ref f))) (hf : PySem.W.isFn X.K (.ref f) = true) (hnl : PySem.W.findIn X.K (.ref C) "__len__" = some none) (hnh : PySem.W.findIn X.K (.ref C) "__length_hint__" = some none)
    (F : ∀ b : Heap, FnOk X.prog X.w X.K X.mg b (L2N.CX X.prog X.w) k f fd ps (sp_iter X.K C at_ b.objs.size)) (hr : Room (k + 2) X.A) (hb : Binds X.K fd ps []) : CallR X (.type "list") (rListOwn X.K C at_) := by
  intro pins s σ H xs us Q I rv h
  obtain ⟨a, dx, t, fs, zs, rfl, ha, hl, ht, hz, hq⟩ := h
  obtain ⟨u, rfl, ru⟩ := rv.one
  cases ru
  have sb : Sub X k X.A.in1.in1 := Sub.in1 (Sub.in1 (show Sub X (k + 2) X.A from ⟨hr, rfl⟩))
  let O : Obj := { cls := .type "list", data := .seq #[] }
  refine callType_codes (Q₁ := fun ob s1 => ob = .ref s.heap.objs.size ∧ s1 = { s with heap := s.heap.push O }) PySem.F.called_list
    (PySem.F.typeCall_list_1 _) PySem.F.entry_list_init (code_list_new _ ⟨rfl, rfl⟩) fun ob s1 hob => ?_
  obtain ⟨rfl, rfl⟩ := hob
  have hS : (s.heap.push O).get? s.heap.objs.size = some O := Heap.get?_push_size _ rfl
  refine ⟨⟨_, hS, rfl⟩, PySem.F.args_list_init_2 _ _, ?_⟩
  have fr : H s.heap.objs.size = none := I.hok.fresh (Nat.le_refl _)
  have I1 : Inv X pins σ (upd H s.heap.objs.size (.lst [])) { s with heap := s.heap.push O } := I.lnew (its := []) (t' := s.toks) .nil (Nat.zero_le _)
  show wpAny _ _ (do let old ← Builtin.List.listItems (.ref s.heap.objs.size); Builtin.List.listUpdate (.ref s.heap.objs.size) (fun _ => #[])
                     letGo old.toList.reverse; Builtin.List.listExtendWith (.ref s.heap.objs.size) (.ref a) .none) _ _ _
  refine wpAny_bind ?_
  unfold Builtin.List.listItems
  refine wpAny_bind (wpAny_seqItems hS rfl (wpAny_pure ?_))
  show wpAny _ _ (updateSeq s.heap.objs.size (fun _ => #[]) >>= fun _ => letGo (#[] : Array Value).toList.reverse >>= fun _ =>
    Builtin.List.listExtendWith (.ref s.heap.objs.size) (.ref a) .none) _ _ _
  refine wpAny_bind (wpAny_updateSeq hS rfl ?_)
  have I2 := I1.lset (f := fun _ => #[]) (its := []) (its' := []) (ys := []) (t' := s.toks) upd_same hS rfl .nil (Nat.zero_le _)
  rw [upd_upd] at I2
  refine wpAny_bind (wpAny_letGo ?_)
  have ha2 : upd H s.heap.objs.size (.lst []) a = some (.ins C dx fs) := h_new fr ha
  have hne : s.heap.objs.size ≠ a := fun z => by rw [← z, fr] at ha; cases ha
  have ht2 := same_sqt (same_new (o := HO.lst []) fr) ht
  -- the walk's start
  obtain ⟨mA, J, _⟩ := ins_get I2.hok ha2
  obtain ⟨od, J, _⟩ := J.look
  unfold Builtin.List.listExtendWith
  refine wpAny_bind (J.type.here ?_)
  have n1 : Builtin.List.listSameRef (.ref s.heap.objs.size) (.ref a) = false := by simp [Builtin.List.listSameRef, hne]
  have n2 : (Value.ref C == Value.type "list") = false := rfl
  have n3 : (Value.ref C == Value.type "tuple") = false := rfl
  simp only [n1, n2, n3, Bool.or_false, Bool.false_eq_true, if_false]
  have hs2 : s.heap.objs.size < (s.heap.push O).objs.size := by rw [Heap.size_push]; exact Nat.lt_succ_self _
  refine wpAny_bind (own_pyIter hs hf F sb hb I2 ha2 hl ht2 (fun e s' z => z) fun it s' I3 m1 m2 => ?_)
  have nq : s.heap.objs.size ≠ it := fun z => by rw [← z, upd_same] at m1; cases m1
  have hn : H it = none := by rw [upd_ne (Ne.symm nq)] at m1; exact m1
  have young : X.s_0.heap.objs.size ≤ it := Nat.le_trans I2.sz m2
  have ha3 : upd (upd H s.heap.objs.size (.lst [])) it (TiO t it 0) a = some (.ins C dx fs) := h_new m1 ha2
  obtain ⟨mA', J', _⟩ := ins_get I3.hok ha3
  obtain ⟨od', J', _⟩ := J'.look
  have fin : ∀ s4, Inv X pins σ (upd (upd H s.heap.objs.size (.lst [])) it (TiO t it 0)) s4 → codeAny (model X.prog X.w) X.A.in1 (.builtin "list.extend.loop" ⟨[.ref s.heap.objs.size, .ref it, .none], []⟩)
      (wants (fun r s2 => r = .none ∧ EP X pins σ Q (.ref s.heap.objs.size) s2) X.xe) s4 := fun s4 I4 =>
    ti_loop (A1 := X.A.in1) (zs := zs) (I4.ok.hd hc) hn fr nq young ht hz (fun e s5 z => z) (fun s5 I5 => ⟨rfl, .ref s.heap.objs.size, _, I5, rfl, hq _ fr⟩) zs.length 0 _ s4 (by omega) (by omega)
      (by rw [upd_ne nq, upd_same]; rfl) upd_same (fun b h1 h2 => by rw [upd_ne h2, upd_ne h1]) I4
  refine wpAny_bind (wpAny_holding ?_)
  unfold Builtin.List.listLengthHint
  refine wpAny_bind (wpAny_bind (J'.type.here ((PySem.W.looks_findIn I3.kIn hnl).here ?_)))
  refine PySem.W.KFB.if_not rfl (PySem.W.KFB.if_not rfl ?_)
  refine wpAny_bind (wpAny_bind (J'.type.here ((PySem.W.looks_findIn I3.kIn hnh).here ?_)))
  refine wpAny_pure ?_
  obtain ⟨z, its, k0, r3, hl3, e3⟩ := I3.lstM (xs := []) (l := s.heap.objs.size) (by rw [upd_ne nq, upd_same])
  cases r3
  refine wpAny_ite_split (fun _ => ?_) (fun _ => wpAny_pure ⟨plainId_quiet PySem.F.plain_extend_loop _, fin s' I3⟩)
  refine wpAny_bind (wpAny_rule (wpAny_bind ?_))
  show wpAny _ _ (updateSeq s.heap.objs.size (·.push .none) >>= fun _ => updateSeq s.heap.objs.size (·.pop)) _ _ _
  refine wpAny_bind (wpAny_updateSeq e3 rfl ?_)
  have eQ : upd (upd H s.heap.objs.size (.lst [])) it (TiO t it 0) s.heap.objs.size = some (.lst []) := by rw [upd_ne nq, upd_same]
  have I4 := I3.lset (f := (·.push Value.none)) (its' := [Value.none]) (ys := [.non]) (t' := s'.toks) eQ e3 (by simp) (.cons rfl .nil) (by rw [List.length_singleton, sizeLine_eq]; decide)
  obtain ⟨z4, its4, k4, r4, hl4, e4⟩ := I4.lstM upd_same
  obtain ⟨u4, rfl, ru4⟩ := r4.one
  refine wpAny_updateSeq e4 rfl (wpAny_pure ⟨plainId_quiet PySem.F.plain_extend_loop _, fin _ ?_⟩) (by show 1 ≤ sizeLine; rw [sizeLine_eq]; decide) (by show 0 ≤ sizeLine + 1; exact Nat.zero_le _)
  have I5 := I4.lset (f := (·.pop)) (its := [u4]) (its' := []) (ys := []) (t' := s'.toks) upd_same e4 (by rfl) .nil (Nat.zero_le _)
  rw [upd_upd] at I5
  have hH : ∀ G : Hp, G s.heap.objs.size = some (.lst []) → upd G s.heap.objs.size (.lst []) = G := fun G hG => by
    funext b
    by_cases hb : b = s.heap.objs.size
    · rw [hb, upd_same, hG]
    · rw [upd_ne hb]
  rw [hH _ eQ] at I5
  exact I5
end
end Vb
namespace Vb
open PySem PySem.Spec PyProof.Rows L2
theorem prop_mk {K : PySem.W.Frag} {C : Addr} {f : Str} {p g : Addr} {rest : List Value} (a : PySem.W.findIn K (.ref C) f = some (some (.ref p))) (b : PySem.W.specialIn K (.ref p) "__get__" = some (some (.builtin "property.__get__"))) (c : PySem.W.takesIn K (.ref p) = some true)
    (d : PySem.W.recIn K p "property" = some (.ref g :: rest)) : PropOf K C f p g := ⟨a, b, c, rest, d⟩
end Vb
namespace Vb
open PySem PySem.Spec PyProof.Rows L2
/-! ### len(set(xs)), xs a list or a tuple of any ints -/
/-- as many different ones as there are, or fewer -/
theorem card_le : ∀ {ns ks : List Int}, ks.Nodup → (∀ k, k ∈ ks ↔ k ∈ ns) → ks.length ≤ ns.length ∧ (ks.length = ns.length → ns.Nodup)
  | [], ks, _, h => by
    have : ks = [] := List.eq_nil_iff_forall_not_mem.mpr fun k m => by have := (h k).mp m; cases this
    rw [this]
    exact ⟨Nat.le_refl _, fun _ => List.nodup_nil⟩
  | x :: ns, ks, nd, h => by
    by_cases c : x ∈ ns
    · have ⟨a, b⟩ := card_le (ns := ns) nd fun k => (h k).trans ⟨fun m => by
        rcases List.mem_cons.mp m with rfl | m
        · exact c
        · exact m, fun m => List.mem_cons_of_mem _ m⟩
      exact ⟨Nat.le_succ_of_le a, fun e => by rw [List.length_cons] at e; omega⟩
    · have xk : x ∈ ks := (h x).mpr (List.mem_cons_self ..)
      have le := List.length_erase_of_mem xk
      have pos : 0 < ks.length := List.length_pos_of_mem xk
      have ⟨a, b⟩ := card_le (ns := ns) (nd.erase x) fun k => by
        rw [nd.mem_erase_iff, h k, List.mem_cons]
        exact ⟨fun m => m.2.resolve_left m.1, fun m => ⟨fun e => c (e ▸ m), .inr m⟩⟩
      refine ⟨by rw [List.length_cons]; omega, fun e => List.nodup_cons.mpr ⟨c, b (by rw [List.length_cons] at e; omega)⟩⟩
theorem card_nodup {ns ks : List Int} (nd : ks.Nodup) (h : ∀ k, k ∈ ks ↔ k ∈ ns) (n2 : ns.Nodup) : ks.length = ns.length :=
  Nat.le_antisymm (card_le nd h).1 (card_le n2 fun k => (h k).symm).1
theorem firstMet_facts (ns : List Int) : ∀ i, i ≤ ns.length → (PyProof.Rows.firstMet (fun i => ns.getD i 0) i).Nodup ∧ ∀ k, k ∈ PyProof.Rows.firstMet (fun i => ns.getD i 0) i ↔ k ∈ ns.take i
  | 0, _ => ⟨List.nodup_nil, fun k => Iff.rfl⟩
  | i + 1, hi => by
    have hlt : i < ns.length := hi
    have ⟨a, b⟩ := firstMet_facts ns i (Nat.le_of_lt hlt)
    have e1 : ns.getD i 0 = ns[i] := by rw [List.getD_eq_getElem?_getD, List.getElem?_eq_getElem hlt]; rfl
    have e2 : ns.take (i + 1) = ns.take i ++ [ns[i]] := by rw [List.take_add_one, List.getElem?_eq_getElem hlt]; rfl
    rw [PyProof.Rows.firstMet_succ, e1, e2]
    generalize PyProof.Rows.firstMet (fun i => ns.getD i 0) i = l at a b
    show (if l.any (· == ns[i]) = true then l else l ++ [ns[i]]).Nodup ∧ _
    have se : PyProof.Rows.step_dedup l ns[i] = if l.any (· == ns[i]) = true then l else l ++ [ns[i]] := rfl
    rw [se]
    split
    · rename_i c
      obtain ⟨y, hy, ey⟩ := List.any_eq_true.mp c
      have ey : y = ns[i] := eq_of_beq ey
      refine ⟨a, fun k => (b k).trans ⟨fun m => List.mem_append_left _ m, fun m => ?_⟩⟩
      rcases List.mem_append.mp m with m | m
      · exact m
      · rw [List.mem_singleton.mp m, ← ey]
        exact (b y).mp hy
    · rename_i c
      have no : ns[i] ∉ l := fun m => c (List.any_eq_true.mpr ⟨_, m, beq_self_eq_true _⟩)
      refine ⟨List.nodup_append.mpr ⟨a, List.pairwise_singleton _ _, fun x hx y hy e => ?_⟩, fun k => ?_⟩
      · rw [List.mem_singleton.mp hy] at e
        exact no (e ▸ hx)
      · rw [List.mem_append, List.mem_append, b k]
theorem intsAre_vals : ∀ {ns : List Int} {us : List Value}, Vals (ns.map V.int) us → PyProof.Rows.IntsAre us ns
  | [], _, .nil => .nil
  | n :: ns, _, .cons r t => by
    obtain ⟨k, rfl⟩ := r
    exact .cons n k (intsAre_vals t)
def tLenSetA (K : PySem.W.Frag) (ta : TE) : TE := fun σ H Q => ta σ H fun x H1 => ∃ (l : Addr) (ns : List Int), x = .ref l ∧ SqA K H1 l (ns.map V.int) ∧ ns.length ≤ 1000 ∧ ∀ c : Nat, (ns.Nodup → c = ns.length) → (¬ ns.Nodup → c < ns.length) → Q (.int (c : Nat)) H1
theorem pe_lenSetA {X : Cx} {a : Expr} {ta : TE} {p p2 q pos : Pos} (hg : Gl X "len") (hm : X.mg "len" = none) (hg2 : Gl X "set") (hm2 : X.mg "set" = none) (ha : PE X a ta) (hc : X.calm = true := by rfl)
    (na : starEach [a] X.env = (false, eval a X.env) :: starEach [] X.env := by rfl) : PE X (.Call (.Name "len" p) [.Call (.Name "set" p2) [a] [] q] [] pos) (tLenSetA X.K ta) := by
  refine ⟨fun pins s σ H Q I h => ?_⟩
  refine Call_ (ld_blt I hg hm PySem.boot_len ?_)
  refine PyProof.Rows.callWith_builtin1 (PyProof.Rows.args_cons ?_ rfl) rfl rfl
  refine Call_ (ld_blt I hg2 hm2 PyProof.Rows.boot_set ?_)
  refine PyProof.Rows.callWith_type1 (PyProof.Rows.args_cons (thn (ha.run pins s σ H _ I h) fun v s1 ⟨x, H1, I1, r1, q1⟩ => PyProof.Rows.args_nil ?_) na) na rfl
  obtain ⟨l, ns, rfl, hq, hl, q1⟩ := q1
  cases r1
  have fin : ∀ ks : List Int, ks.Nodup → (∀ k, k ∈ ks ↔ k ∈ ns) → Q (.int (ks.length : Nat)) H1 := fun ks nd h => by
    refine q1 _ (card_nodup nd h) fun n => ?_
    have ⟨a, b⟩ := card_le nd h
    rcases Nat.lt_or_ge ks.length ns.length with z | z
    · exact z
    · exact absurd (b (Nat.le_antisymm a z)) n
  rcases hq with hq | hq
  · obtain ⟨its, r, pl, hz⟩ := I1.list hq
    have hlen : its.toArray.size = ns.length := by rw [List.size_toArray, ← r.length, List.length_map]
    refine call_set_list (I1.ok.hd hc) pl.isList (by simpa using intsAre_vals r) (by rw [hlen]; unfold scanBound; omega) fun h' tk hS hk => ?_
    refine PyProof.Rows.args_nil ?_
    rw [hlen] at hS
    obtain ⟨f1, f2⟩ := firstMet_facts ns ns.length (Nat.le_refl _)
    rw [List.take_length] at f2
    have f3 := PyProof.Rows.firstMet_length_le (fun i => ns.getD i 0) ns.length
    obtain ⟨o, es, ep, t, ho, hex, hd, _, _, _, hf, hn⟩ := hS
    have I2 : Inv X pins σ H1 { s1 with heap := h', toks := tk } := I1.kept fun b o e => hk b o (Heap.lt_size e) e
    exact call_len_set ho hex hd hf (by rw [hn] <;> omega) ⟨.int _, H1, I2.tok _, ⟨_, by rw [hn]⟩, fin _ f1 f2⟩
  · obtain ⟨its, r, pt, hz⟩ := I1.tuple hq
    refine L2.call_set_tupI ns (I1.ok.hd hc) (show s1.heap.IsTuple l its.toArray from pt) (by simpa using intsAre_vals r) (by unfold scanBound; omega) fun h' tk c hS hcl hk => ?_
    refine PyProof.Rows.args_nil ?_
    obtain ⟨o, es, ep, t, ho, hex, hd, _, nd, hmem, _, hf, hn, _⟩ := hS
    have I2 : Inv X pins σ H1 { s1 with heap := h', toks := tk } := I1.kept fun b o e => hk b o e
    have kl : (es.toList.map L2.keyOf).length = es.size := by rw [List.length_map, Array.length_toList]
    refine call_len_set ho hex hd hf (by rw [hn] <;> omega) ⟨.int _, H1, I2.tok _, ⟨_, rfl⟩, ?_⟩
    rw [← kl]
    exact fin _ nd fun k => by rw [← hmem k, decide_eq_true_iff]
theorem r_lenSetA {K : PySem.W.Frag} {ta : TE} {σ : L2.St} {H : Hp} {Q : VK} (h : ta σ H fun x H1 => ∃ (l : Addr) (ns : List Int), x = .ref l ∧ SqA K H1 l (ns.map V.int) ∧ ns.length ≤ 1000 ∧ ∀ c : Nat, (ns.Nodup → c = ns.length) → (¬ ns.Nodup → c < ns.length) → Q (.int (c : Nat)) H1) : tLenSetA K ta σ H Q := h
end Vb
namespace Vb
open PySem PySem.Spec PyProof.Rows L2
/-! ### defs that are handed the error which is being handled -/
/-- a def called within an except suite; what it promises may speak of the error's object -/
structure FnE (P : Program) (w : World) (K : PySem.W.Frag) (mg : Str → Option Value) (base : Heap) (k : Nat) (f : Addr) (fd : FuncData) (ps : List Str) (sp : Addr → Value → Option Addr → Sp) : Prop where
  size : ∀ {a cls d vs H Q E}, sp a cls d vs H Q E → vs.length = ps.length
  go : ∀ {A : Around} {fr : List Env} {s : Shared} {H : Hp} {as : Args} {us : List Value} {vs : List V} {Q : VK} {E : XK} {e : Addr × Obj} {cls : Value} {d : Option Addr}, L2N.Zn cls d e.2 → (∃ vs, e.2.data = .fields vs) → L2H.RoomH k A → L2H.Hot1 A e → L2H.PinOk fr H s e → Env0 P w K mg base A fr s H → BindsTo s fd as (ps.zip us) → Vals vs us → sp e.1 cls d vs H Q E →
    codeAny (model P w) A (.call (.ref f) as) (CR CX0 fr P w H s Q E) s
theorem okE2 {P : Program} {w : World} {K : PySem.W.Frag} {mg : Str → Option Value} {base : Heap} {x qual : Str} {st : Stmt} {f : Addr} {fd : FuncData} {N ps : List Str} {k : Nat} {sp : Addr → Value → Option Addr → Sp} (F : Fun K x qual st f fd) (S : FnScope N ps (defScope st)) (size : ∀ {a cls d vs H Q E}, sp a cls d vs H Q E → vs.length = ps.length)
    (hbody : ∀ (cdv : Value) (A : Around) (fr : List Env) (s : Shared) (H : Hp) (vs : List V) (Q : VK) (E : XK) (e : Addr × Obj) (cls : Value) (d : Option Addr), L2N.Zn cls d e.2 → (∃ vs, e.2.data = .fields vs) → L2H.RoomH k (A.deeper (envOfC qual (defScope st) s.heap.objs.size f cdv)) → L2H.HotC (L2H.cxH CX0 P w K mg base N qual (defScope st) f cdv A fr s H E e) → sp e.1 cls d vs H Q E →
      ∃ t, PSs (L2H.cxH CX0 P w K mg base N qual (defScope st) f cdv A fr s H E e) (defBody st) t ∧ t (Ends.mk (fun _ H' => Q .non H') Q (fun _ _ => False) (fun _ _ => False)) (start N vs) H) : FnE P w K mg base (k + 1) f fd ps sp := by
  obtain ⟨oc, od, kV, doc, pm, an, cdv, ct, osl, rfl, lk, hcd⟩ := F.ex
  constructor
  · exact size
  intro A fr s H as us vs Q E e cls d hz hf room hot pin e0 bind vals hsp
  have KI : K.In s.heap := e0.mod.kin.keeps fun b o z => (e0.bs b o z).1
  have nolim : s.heap.NoLimit := e0.mod.nolimit.keeps fun b o z => (e0.bs b o z).1
  refine codeAny_call_function room.depth (KI _ _ lk) rfl S.co S.gen rfl (PySem.W.codeRec_of KI hcd) (bind _ _ _ _ ?_)
  refine wpAny_newFunctionEnv_cells S.kind ?kinds fun env ee s1 inside => ?body
  case kinds =>
    intro y hy
    obtain q | q := S.par y.1 (List.of_mem_zip (a := y.1) (b := y.2) hy).1
    · exact Or.inl q
    · exact Or.inr ⟨q, PySem.W.cellsFrom_some _ _ _ (Or.inl q)⟩
  case body =>
    subst ee
    refine ⟨nolim.keeps inside.toInCall.keep, codeAny_func ?_⟩
    obtain ⟨t, ht, hq⟩ := hbody cdv A fr s H vs Q E e cls d hz hf (room.deeper _) ⟨e, hot, List.mem_singleton.mpr rfl⟩ hsp
    have I := L2H.inv_startH (CX := CX0) (qual := qual) (f := f) (cd := cdv) (E := E) S pin e0 (size hsp) vals inside
    have leave : ∀ {σ' : L2.St} {H' : Hp} {s' : Shared} {v : V} {u : Value}, Inv (L2H.cxH CX0 P w K mg base N qual (defScope st) f cdv A fr s H E e) [] σ' H' s' → RelV v u → Q v H' → CE fr P w H s Q u s' := fun J r q => ⟨_, _, J.os, J.bare, J.base, J.hok, r, q⟩
    refine wpAny_mono (ht.run [] s1 (start N vs) H _ I hq) (fun fl s' z => ?_) fun _ _ z => z
    match fl, z with
    | .ret u, z => exact z.elim fun v z => z.elim fun σ' z => z.elim fun H' z => leave z.1 z.2.1 z.2.2
    | .next, z => exact z.elim fun σ' z => z.elim fun H' z => leave (v := V.non) (u := Value.none) z.1 rfl z.2
    | .brk, z => exact z.elim fun _ z => z.elim fun _ z => z.2.elim
    | .cont, z => exact z.elim fun _ z => z.elim fun _ z => z.2.elim
theorem okE {P : Program} {w : World} {K : PySem.W.Frag} {mg : Str → Option Value} {base : Heap} {x qual : Str} {st : Stmt} {f : Addr} {fd : FuncData} {N ps : List Str} {k : Nat} {sp : Addr → Value → Option Addr → Sp} (F : Fun K x qual st f fd) (S : FnScope N ps (defScope st)) (size : ∀ {a cls d vs H Q E}, sp a cls d vs H Q E → vs.length = ps.length)
    (hbody : ∀ (cdv : Value) (A : Around) (fr : List Env) (s : Shared) (H : Hp) (vs : List V) (Q : VK) (E : XK) (e : Addr × Obj) (cls : Value) (d : Option Addr), L2N.Zn cls d e.2 → (∃ vs, e.2.data = .fields vs) → L2H.RoomH k (A.deeper (envOfC qual (defScope st) s.heap.objs.size f cdv)) → sp e.1 cls d vs H Q E →
      ∃ t, PSs (L2H.cxH CX0 P w K mg base N qual (defScope st) f cdv A fr s H E e) (defBody st) t ∧ t (Ends.mk (fun _ H' => Q .non H') Q (fun _ _ => False) (fun _ _ => False)) (start N vs) H) : FnE P w K mg base (k + 1) f fd ps sp := okE2 F S size fun cdv A fr s H vs Q E e cls d hz hf hr _ h => hbody cdv A fr s H vs Q E e cls d hz hf hr h
section
variable {X : Cx} {k : Nat} {f a : Addr} {oe : Obj} {fd : FuncData} {ps : List Str} {sp : Addr → Value → Option Addr → Sp} {x : Str} {q pos : Pos} {e : Expr} {es : List Expr} {t : TA} {cls : Value} {d : Option Addr} {pn : List (Addr × Obj)}
/-- f(e, ..) in the suite that holds the error (a, oe) -/
theorem pe_callE (hz : L2N.Zn cls d oe) (hf : ∃ vs, oe.data = .fields vs) (F : FnE X.prog X.w X.K X.mg X.base k f fd ps sp) (hr : L2H.RoomH k (X.suite a ((a, oe) :: pn)).A) (hg : Gl (X.suite a ((a, oe) :: pn)) x) (hm : X.mg x = some (.ref f)) (hk : PySem.W.keepIn X.K (.ref f) = true) (hb : Binds X.K fd ps [])
    (ha : PA (X.suite a ((a, oe) :: pn)) (e :: es) t) (hdb : (x == ("__debug__" : Str)) = false := by decide) (he : starEach (e :: es) (X.suite a ((a, oe) :: pn)).env = (false, eval e (X.suite a ((a, oe) :: pn)).env) :: starEach es (X.suite a ((a, oe) :: pn)).env := by rfl) (hpl : (backTo pos (starEach es (X.suite a ((a, oe) :: pn)).env)).any (·.1) = false := by rfl) :
    PE (X.suite a ((a, oe) :: pn)) (.Call (.Name x q) (e :: es) [] pos) (tCallS (sp a cls d) (fun _ => E0) t) := by
  constructor
  intro pins s σ H Q I h
  refine wpAny_Call_Name_kw (ld_glob I hg (show (X.suite a ((a, oe) :: pn)).mg x = _ from hm) ?_ hdb)
  have done : ∀ us s1, (∃ vs H1, Inv (X.suite a ((a, oe) :: pn)) pins σ H1 s1 ∧ Vals vs us ∧ sp a cls d vs H1 Q E0) → wpAny (model X.prog X.w) (X.suite a ((a, oe) :: pn)).A (call (.ref f) us) (EP (X.suite a ((a, oe) :: pn)) pins σ Q) (X.suite a ((a, oe) :: pn)).xe s1 := by
    rintro us s1 ⟨vs, H1, I1, r, hsp⟩
    obtain ⟨dat, hd⟩ := hf
    have hot : L2H.Hot1 (X.suite a ((a, oe) :: pn)).A (a, oe) := ⟨rfl, dat, hd, hz.2.2 dat hd⟩
    have pinned := I1.pin (a, oe) (List.mem_append_left _ List.mem_cons_self)
    have lens : us.length = ps.length := r.length.symm.trans (F.size hsp)
    have bind := hb s1 us I1.kIn (by rw [List.append_nil]; exact lens)
    rw [List.append_nil] at bind
    have ok : L2H.PinOk (X.suite a ((a, oe) :: pn)).stack H1 s1 (a, oe) := ⟨pinned.1, pinned.2.1, fun hm => by
      obtain z | z := List.mem_cons.mp (I1.stkSub a hm)
      · exact pinned.2.2.1 z
      · exact pinned.2.2.2.1 z, pinned.2.2.2.2⟩
    refine wpAny_call (codeAny_mono (F.go (as := ⟨us, []⟩) (e := (a, oe)) hz ⟨dat, hd⟩ hr hot ok I1.env0 bind r hsp) fun res s2 z => ?_)
    match res, z with
    | .error _, z => exact (passH (σ := σ) pins H1 s1 _ s2 I1 z)
    | .ok (.ret _), z => exact I1.after z
    | .ok .next, z => exact z.elim
    | .ok .brk, z => exact z.elim
    | .ok .cont, z => exact z.elim
  exact PySem.W.callWith_K (h₀ := X.base) I.ok.mod.kin hk (thn (ha.run pos pins s σ H _ I h) fun us s1 z => by
    obtain ⟨vs, H1, I1, r, hsp⟩ := z
    exact ⟨I1.kIn, done us s1 ⟨vs, H1, I1, r, hsp⟩⟩) he hpl
/-- isinstance(e, c), e the error that was handed in -/
theorem call_isP {X : Cx} {a D : Addr} {oe : Obj} {cls : Value} {d : Option Addr} (pin : (a, oe) ∈ X.pn) (C : Xk X.K D) (hz : L2N.Zn cls d oe) (hf : ∃ vs, oe.data = .fields vs) : CallR X (.builtin "isinstance") (rIsX X.K D a cls d) := by
  intro pins s σ H xs us Q I r h
  obtain ⟨c, cv, b, rfl, ec, hcv, e, hd, q⟩ := h
  obtain ⟨u1, u2, rfl, r1, r2⟩ := vals2 r
  cases (show u1 = Value.ref a from r1)
  have e2 := hcv _ r2
  subst e2
  have hget := (I.pin (a, oe) (List.mem_append.mpr (.inl pin))).1
  obtain ⟨vs, hv⟩ := hf
  have noc : PySem.W.notCls oe = true := by unfold PySem.W.notCls; rw [hv]
  have J : ∃ od, PySem.W.InstAt s.heap a oe D od := by
    rcases hd with hd | ⟨dd, fs, hd, ho⟩
    · refine ⟨none, hget, hz.1.trans ec, noc, ?_⟩
      rw [hz.2.1, hd]
      trivial
    · have hx : ObjOk X.prog X.w H s.heap dd (.xd fs) := I.hok dd _ ho
      obtain ⟨mA, hns, _⟩ := hx
      obtain ⟨od, ho, _⟩ := lookIn_ns hns
      refine ⟨some od, hget, hz.1.trans ec, noc, ?_⟩
      rw [hz.2.1, hd]
      exact ho
  obtain ⟨od, J⟩ := J
  exact PySem.W.kia_one (PySem.W.kitx_exc C.cl C.ga C.gg C.sb C.ca C.sp C.tk C.mo) I.kIn J e (fun z => nomatch z) fun tk => ⟨.bl b, H, I.kept (t' := tk) fun _ _ z => z, rfl, q⟩
end
end Vb
namespace Vb
open PySem PySem.Spec PyProof.Rows L2
section
variable {K : PySem.W.Frag} {σ : L2.St} {H : Hp} {nx bk ct : L2.St → Hp → Prop} {rt : VK}
/-- into an except suite of a class above -/
theorem r_asS {C D : Addr} {d : Option Addr} {i : Nat} {ts : Addr → Value → Option Addr → TS} {Wo : WX} (k : Xk K C) (s : PySem.W.subIn K (.ref D) (.ref C) = some true) (h : ∀ a, H a = none → ts a (.ref D) d (Ends.mk (fun σ' H' => nx (σ'.set i none) H') rt (fun σ' H' => bk (σ'.set i none) H') (fun σ' H' => ct (σ'.set i none) H')) (σ.set i (some (.ref a))) H) :
    WE (wAs K (.ref C) i ts Wo (Ends.mk nx rt bk ct)) σ (.ref D) d H := ⟨true, PySem.W.exm_ref k.sb k.hd k.ty s, fun _ => h, fun z => Bool.noConfusion z⟩
end
end Vb
namespace Vb
open PySem PySem.Spec PyProof.Rows L2
/-! ### zip(s, t), each a list or a tuple -/
/-- a list (true) or a tuple (false) of these values -/
def SqB (K : PySem.W.Frag) (H : Hp) (a : Addr) (xs : List V) (p : Bool) : Prop := (p = true → SqL K H a xs) ∧ (p = false → SqT K H a xs)
theorem SqB.a {K : PySem.W.Frag} {H : Hp} {a : Addr} {xs : List V} {p : Bool} (h : SqB K H a xs p) : SqA K H a xs := by
  cases p
  · exact .inr (h.2 rfl)
  · exact .inl (h.1 rfl)
theorem sqB_of {K : PySem.W.Frag} {H : Hp} {a : Addr} {xs : List V} (h : SqA K H a xs) : ∃ p, SqB K H a xs p := by
  rcases h with h | h
  · exact ⟨true, fun _ => h, fun z => nomatch z⟩
  · exact ⟨false, (fun z => nomatch z), fun _ => h⟩
theorem SqB.same {K : PySem.W.Frag} {H H' : Hp} {a : Addr} {xs : List V} {p : Bool} (e : Same H H') (h : SqB K H a xs p) : SqB K H' a xs p := ⟨fun z => e.seq (h.1 z), fun z => sqT_same e (h.2 z)⟩
def ItB : Bool → Heap → Addr → Addr → Nat → Prop
  | true, h, it, a, i => h.IsListIter it a i
  | false, h, it, a, i => h.IsTupleIter it a i
def SeB : Bool → Heap → Addr → Array Value → Prop
  | true, h, a, items => h.IsList a items
  | false, h, a, items => h.IsTuple a items
theorem drawsB {prog : Program} {w : World} {A : Around} (p : Bool) (hh : A.handled = none) (it l : Addr) (hne : l ≠ it) (items : Array Value) : Draws prog w A it [it, l] items.size (fun i v => items[i]? = some v) (fun i h => ItB p h it l i ∧ SeB p h l items) := by
  cases p
  · exact Draws.tuple hh it l hne items
  · exact Draws.list hh it l hne items
theorem beginsB (p : Bool) (l : Addr) (items : Array Value) : ∃ o : Obj, Begins (.ref l) o (fun h => SeB p h l items) ∧ ∀ h' it, h'.get? it = some o → ItB p h' it l 0 := by
  cases p
  · exact ⟨_, begins_tuple l items, fun h' it e => ⟨_, e, rfl, rfl⟩⟩
  · exact ⟨_, begins_list l items, fun h' it e => ⟨_, e, rfl, rfl⟩⟩
theorem ItB.ob {p : Bool} {h : Heap} {it a : Addr} {i : Nat} (x : ItB p h it a i) : ∃ o, h.get? it = some o ∧ ∀ v, o.data ≠ .cell v := by
  cases p
  · obtain ⟨o, e, _, d⟩ := x
    exact ⟨o, e, fun v z => by rw [d] at z; cases z⟩
  · obtain ⟨o, e, _, d⟩ := x
    exact ⟨o, e, fun v z => by rw [d] at z; cases z⟩
theorem ItB.keep {p : Bool} {h h' : Heap} {it a : Addr} {i : Nat} (x : ItB p h it a i) (k : ∀ o, h.get? it = some o → h'.get? it = some o) : ItB p h' it a i := by
  cases p
  · exact (show h.IsTupleIter it a i from x).at k
  · exact (show h.IsListIter it a i from x).at k
theorem seB_of {X : Cx} {pins : List (Addr × Obj)} {σ : L2.St} {H : Hp} {s : Shared} {a : Addr} {xs : List V} {p : Bool} (I : Inv X pins σ H s) (h : SqB X.K H a xs p) : ∃ its, Vals xs its ∧ SeB p s.heap a its.toArray ∧ a < s.heap.objs.size := by
  cases p
  · obtain ⟨its, rv, pt, _⟩ := I.tuple (h.2 rfl)
    obtain ⟨o, ho, _⟩ := id pt
    exact ⟨its, rv, pt, Heap.lt_size ho⟩
  · obtain ⟨its, rv, pl, _⟩ := I.list (h.1 rfl)
    exact ⟨its, rv, pl.isList, pl.lt⟩
/-- the pairs of two rows -/
def Izb (K : PySem.W.Frag) (a b : Addr) (xs ys : List V) (p q : Bool) : It :=
  ⟨fun i H => SqB K H a xs p ∧ SqB K H b ys q ∧ i < xs.length ∧ i < ys.length, fun i H v H' => ∃ T x y, v = .ref T ∧ H T = none ∧ H' = upd H T (.tup [x, y]) ∧ xs[i]? = some x ∧ ys[i]? = some y, fun i H => SqB K H a xs p ∧ SqB K H b ys q ∧ (i = xs.length ∨ i = ys.length)⟩
theorem turn_zipB {P : Program} {w : World} {K : PySem.W.Frag} {elts : List Expr} {kk : Nat} {tpos : Pos} {p q : Bool} {a b z TI TO i1 i2 : Addr} {xs ys : List V} (S : ZipSep2 z TI TO i1 i2 [i1, a] [i2, b]) (na : a ≠ i1) (nb : b ≠ i2) :
    Turn P w K (.Tuple elts kk tpos) (Izb K a b xs ys p q) [z, TI, TO, i1, i2] z (fun i h => IsZip h z TI TO .none ∧ IsTupOf2 h TI (.ref i1) (.ref i2) ∧ (∃ x y, IsTupOf2 h TO x y) ∧ ItB p h i1 a i ∧ ItB q h i2 b i ∧ i ≤ xs.length ∧ i ≤ ys.length) where
  mem := List.mem_cons_self
  obj := by
    intro i h st c hc
    obtain ⟨hz, hTI, ⟨x, y, hTO⟩, h1, h2, _⟩ := st
    simp only [List.mem_cons, List.not_mem_nil, or_false] at hc
    rcases hc with rfl | rfl | rfl | rfl | rfl
    · exact ⟨_, hz, fun v t => nomatch t⟩
    · exact ⟨_, hTI, fun v t => nomatch t⟩
    · exact ⟨_, hTO, fun v t => nomatch t⟩
    · exact h1.ob
    · exact h2.ob
  keep := by
    intro i h h' st k
    obtain ⟨hz, hTI, ⟨x, y, hTO⟩, h1, h2, hl⟩ := st
    exact ⟨k z (by simp) _ hz, k TI (by simp) _ hTI, ⟨x, y, k TO (by simp) _ hTO⟩, h1.keep fun o t => k i1 (by simp) o t, h2.keep fun o t => k i2 (by simp) o t, hl⟩
  item := by
    intro X hP hw hK hc i pins s σ H E I hf st hg
    subst hP; subst hw; subst hK
    obtain ⟨hz, hTI, ⟨x0, y0, hTO⟩, h1, h2, hl1, hl2⟩ := st
    obtain ⟨qx, qy, lx, ly⟩ := hg
    obtain ⟨its, rv, p1, _⟩ := seB_of I qx
    obtain ⟨jts, rw', p2, _⟩ := seB_of I qy
    have hh : X.A.in1.handled = none := I.ok.hd hc
    have sx : i < its.toArray.size := by rw [List.size_toArray, ← rv.length]; exact lx
    have sy : i < jts.toArray.size := by rw [List.size_toArray, ← rw'.length]; exact ly
    have zl : z < s.heap.objs.size := Heap.lt_size hz
    refine wpAny_pyNext_zipD2_item S (drawsB p hh i1 a na its.toArray) (drawsB q hh i2 b nb jts.toArray) hz hTI hTO ⟨h1, p1⟩ ⟨h2, p2⟩ sx sy fun u v h' tk hu hv hz' hTO' st1 st2 hT _ hk => ?_
    obtain ⟨u', eu, ru⟩ := rv.get (List.getElem?_eq_getElem lx)
    obtain ⟨v', ev, rv2⟩ := rw'.get (List.getElem?_eq_getElem ly)
    obtain rfl : u' = u := by
      have : its[i]? = some u := by simpa using hu
      rw [eu] at this
      exact Option.some.inj this
    obtain rfl : v' = v := by
      have : jts[i]? = some v := by simpa using hv
      rw [ev] at this
      exact Option.some.inj this
    refine ⟨_, rfl, wpAny_letOwnedTupleGo_zip (s := { s with heap := h', toks := tk }) hz' fun g gz sb => ?_⟩
    have gT : g.get? s.heap.objs.size = some { cls := .type "tuple", data := .seq #[u', v'] } := (sb.2 _ (Nat.ne_of_gt zl)).trans hT
    have new : ObjOk X.prog X.w (upd H s.heap.objs.size (.tup [xs[i], ys[i]])) g s.heap.objs.size (.tup [xs[i], ys[i]]) := ⟨size_ok (by show 2 ≤ 16777216; decide), [u', v'], .cons ru (.cons rv2 .nil), ⟨_, gT, rfl, _, rfl⟩⟩
    have J : Inv X pins σ (upd H s.heap.objs.size (.tup [xs[i], ys[i]])) { s with heap := g, toks := tk } :=
      I.turnedNew (t' := tk) (ch := [z, TI, TO, i1, i2]) (fun c o hb t => (sb.2 c (fun y => hb (by simp [y]))).trans (hk c o (fun y => hb (by simp [y])) (fun y => hb (by simp [y])) (fun y => hb (by simp [y])) (fun y => hb (by simp [y])) t)) hf (Nat.le_refl _) new
    refine ⟨.ref s.heap.objs.size, _, J, rfl, ⟨_, xs[i], ys[i], rfl, I.hok.fresh (Nat.le_refl _), rfl, List.getElem?_eq_getElem lx, List.getElem?_eq_getElem ly⟩, ⟨gz, ?_, ⟨u', v', ?_⟩, ?_, ?_, lx, ly⟩, fun c hcm => ?_⟩
    · exact (sb.2 _ S.TIz).trans (hk _ _ S.TIz S.TITO S.TIi1 S.TIi2 hTI)
    · exact (sb.2 _ S.TOz).trans hTO'
    · exact st1.1.keep fun o t => (sb.2 _ (Ne.symm S.zi1)).trans t
    · exact st2.1.keep fun o t => (sb.2 _ (Ne.symm S.zi2)).trans t
    · have lt : c < s.heap.objs.size := by
        simp only [List.mem_cons, List.not_mem_nil, or_false] at hcm
        rcases hcm with rfl | rfl | rfl | rfl | rfl
        · exact zl
        · exact Heap.lt_size hTI
        · exact Heap.lt_size hTO
        · exact h1.ob.elim fun _ t => Heap.lt_size t.1
        · exact h2.ob.elim fun _ t => Heap.lt_size t.1
      rw [upd_ne (Nat.ne_of_lt lt)]
      exact (hf c hcm).1
  done := by
    intro X hP hw hK hc i pins s σ H E I hf st hg
    subst hP; subst hw; subst hK
    obtain ⟨hz, hTI, ⟨x0, y0, hTO⟩, h1, h2, hl1, hl2⟩ := st
    obtain ⟨qx, qy, le⟩ := hg
    obtain ⟨its, rv, p1, _⟩ := seB_of I qx
    obtain ⟨jts, rw', p2, _⟩ := seB_of I qy
    have hh : X.A.in1.handled = none := I.ok.hd hc
    have sx : its.toArray.size = xs.length := by rw [List.size_toArray, ← rv.length]
    have sy : jts.toArray.size = ys.length := by rw [List.size_toArray, ← rw'.length]
    refine wpAny_pyNext_zipD2_end S (drawsB p hh i1 a na its.toArray) (drawsB q hh i2 b nb jts.toArray) hz hTI hTO ⟨h1, p1⟩ ⟨h2, p2⟩ (by omega) (by omega) (by omega) fun h' tk hk => ⟨rfl, ?_⟩
    exact I.turnedL (t' := tk) (ch := [z, TI, TO, i1, i2]) (fun c o hb t => hk c o (fun y => hb (by simp [y])) (fun y => hb (by simp [y])) (fun y => hb (by simp [y])) (fun y => hb (by simp [y])) t) hf
  self := by
    intro A i s Q E st t
    exact wpAny_pyIter_zip st.1 t
theorem sep_nat (n a b : Nat) (la : a < n) (lb : b < n) : ZipSep2 (n + 4) (n + 2) (n + 3) n (n + 1) [n, a] [n + 1, b] := by
  have ne : ∀ {x y : Nat}, x ≠ y → (x : Addr) ≠ y := fun h => h
  have no : ∀ {x y z : Nat}, x ≠ y → x ≠ z → (x : Addr) ∉ ([y, z] : List Addr) := fun h1 h2 h => by
    rcases List.mem_cons.mp h with e | h
    · exact h1 e
    · exact h2 (List.mem_singleton.mp h)
  exact ⟨ne (by omega), ne (by omega), ne (by omega), ne (by omega), List.mem_cons_self, no (by omega) (by omega), no (by omega) (by omega), ne (by omega), List.mem_cons_self, no (by omega) (by omega), no (by omega) (by omega), no (by omega) (by omega), no (by omega) (by omega)⟩
def iZipB (K : PySem.W.Frag) (ta : TA) : TI := fun σ H R => ta σ H fun vs H1 => ∃ a b xs ys p q, vs = [.ref a, .ref b] ∧ SqB K H1 a xs p ∧ SqB K H1 b ys q ∧ R (Izb K a b xs ys p q) H1
theorem pi_zipB {X : Cx} {e e2 : Expr} {ta : TA} {p pos tpos : Pos} {elts : List Expr} {kk : Nat} (hg : Gl X "zip") (hm : X.mg "zip" = none) (ha : PA X [e, e2] ta) (hs : starEach [e, e2] X.env = (false, eval e X.env) :: starEach [e2] X.env := by rfl) (hpl : (backTo pos (starEach [e2] X.env)).any (·.1) = false := by rfl) :
    PI X (.Tuple elts kk tpos) (.Call (.Name "zip" p) [e, e2] [] pos) (iZipB X.K ta) := by
  constructor
  intro pins s σ H R I h
  refine Call_ (ld_blt I hg hm PyProof.Rows.boot_zip (PyProof.Rows.callWith_type1 (thn (ha.run pos pins s σ H _ I h) fun us s1 y => ?_) hs hpl))
  obtain ⟨vs, H1, I1, r1, a, b, xs, ys, p, q, ex, qx, qy, t⟩ := y
  subst ex
  obtain ⟨u1, u2, rfl, r2, r3⟩ := vals2 r1
  obtain rfl : u1 = Value.ref a := r2
  obtain rfl : u2 = Value.ref b := r3
  obtain ⟨its, rv, p1, la⟩ := seB_of I1 qx
  obtain ⟨jts, rw', p2, lb⟩ := seB_of I1 qy
  obtain ⟨o1, B1, g1⟩ := beginsB p a its.toArray
  obtain ⟨o2, B2, g2⟩ := beginsB q b jts.toArray
  refine zip_begins2 B1 B2 p1 p2 fun h' hz hTI hTO e1 e2 _ hk => wpAny_pyIter_zip hz ?_
  have I2 : Inv X pins σ H1 { s1 with heap := h' } := I1.kept (t' := s1.toks) hk
  refine ⟨s1.heap.objs.size + 4, [s1.heap.objs.size + 4, s1.heap.objs.size + 2, s1.heap.objs.size + 3, s1.heap.objs.size, s1.heap.objs.size + 1], _, _, H1, rfl, I2, turn_zipB (sep_nat _ _ _ la lb) (Nat.ne_of_lt la) (Nat.ne_of_lt (Nat.lt_succ_of_lt lb)), ⟨hz, hTI, ⟨_, _, hTO⟩, g1 _ _ e1, g2 _ _ e2, Nat.zero_le _, Nat.zero_le _⟩, fun c hcm => ?_, t⟩
  have le : s1.heap.objs.size ≤ c := by
    simp only [List.mem_cons, List.not_mem_nil, or_false] at hcm
    rcases hcm with rfl | rfl | rfl | rfl | rfl
    · exact Nat.le_add_right _ _
    · exact Nat.le_add_right _ _
    · exact Nat.le_add_right _ _
    · exact Nat.le_refl _
    · exact Nat.le_add_right _ _
  exact I1.fpOk le (I1.hok.fresh le)
section
variable {ts : TS} {nx : L2.St → Hp → Prop} {rt : VK} {σ : L2.St} {H : Hp} {K : PySem.W.Frag}
theorem r_iZipB {ta : TA} {R : It → Hp → Prop} (h : ta σ H fun vs H1 => ∃ a b xs ys p q, vs = [.ref a, .ref b] ∧ SqB K H1 a xs p ∧ SqB K H1 b ys q ∧ R (Izb K a b xs ys p q) H1) : iZipB K ta σ H R := h
/-- a for over the pairs of two rows of one length that stand still -/
theorem lp_zipB {a b : Addr} {xs ys : List V} {p q : Bool} {g : TG} (hl : xs.length = ys.length) (Pv : Nat → L2.St → Hp → Prop) (h0 : Pv 0 σ H) (hq : ∀ i σ H, i ≤ xs.length → Pv i σ H → SqB K H a xs p ∧ SqB K H b ys q)
    (hs : ∀ i x y T σ H, xs[i]? = some x → ys[i]? = some y → Pv i σ H → H T = none → g (.ref T) σ (upd H T (.tup [x, y])) fun σ2 H2 => ts (Ends.mk (Pv (i + 1)) rt nx (Pv (i + 1))) σ2 H2) (hd : ∀ σ H, Pv xs.length σ H → nx σ H) : ForW (Izb K a b xs ys p q) g ts nx rt σ H := by
  refine ⟨fun i m σ H => m = xs.length - i ∧ i ≤ xs.length ∧ Pv i σ H, ⟨_, rfl, Nat.zero_le _, h0⟩, ?_⟩
  rintro i m σ H ⟨rfl, hi, pv⟩
  obtain ⟨qx, qy⟩ := hq i σ H hi pv
  by_cases hc : i = xs.length
  · subst hc
    exact .inl ⟨⟨qx, qy, .inl rfl⟩, hd _ _ pv⟩
  · refine .inr ⟨⟨qx, qy, by omega, by omega⟩, fun σ' H' => Pv (i + 1) σ' H', fun σ' H' z => ⟨xs.length - (i + 1), by omega, rfl, by omega, z⟩, ?_⟩
    rintro v H' ⟨T, x, y, rfl, hT, rfl, hx, hy⟩
    exact hs i x y T σ _ hx hy pv hT
end
end Vb
namespace Vb
open PySem PySem.Spec PyProof.Rows L2
/-! ### a, b, .. = a list or a tuple -/
def gAny (K : PySem.W.Frag) (n : Nat) (t : TGs) : TG := fun v σ H Q => ∃ a xs, v = .ref a ∧ SqA K H a xs ∧ xs.length = n ∧ t xs σ H Q
theorem pg_any {X : Cx} {pos : Pos} {es : List Expr} {k : Nat} {t : TGs} {n : Nat} (hc : X.calm = true) (h : PGs X es t)
    (hn : (assignEach es X.env).length = n := by rfl) (hst : (assignEach es X.env).findIdx? (·.1) = none := by rfl) : PG X (.Tuple es k pos) (gAny X.K n t) := by
  refine ⟨fun pins s σ H v u Q I r hw => ?_⟩
  obtain ⟨a, xs, e1, hq, hl, hw⟩ := hw
  rcases hq with hq | hq
  · exact (pg_unl (pos := pos) (k := k) hc h hn hst).run pins s σ H v u Q I r ⟨a, xs, e1, hq, hl, hw⟩
  · exact (pg_tup (pos := pos) (k := k) hc h hn hst).run pins s σ H v u Q I r ⟨a, xs, e1, hq, hl, hw⟩
theorem r_gA2 {K : PySem.W.Frag} {H : Hp} {σ : L2.St} {C : L2.St → Hp → Prop} {T : Addr} {u v : V} {i j : Nat} (h : SqA K H T [u, v]) (q : C ((σ.set i (some u)).set j (some v)) H) : gAny K 2 (gCons (gName i) (gCons (gName j) gNil)) (.ref T) σ H C := ⟨T, _, rfl, h, rfl, u, _, rfl, v, _, rfl, rfl, q⟩
/-! ### an expression with two rules; x[::-1] of a list or a tuple -/
def tOrE (t1 t2 : TE) : TE := fun σ H Q => t1 σ H Q ∨ t2 σ H Q
theorem pe_or {X : Cx} {e : Expr} {t1 t2 : TE} (h1 : PE X e t1) (h2 : PE X e t2) : PE X e (tOrE t1 t2) := ⟨fun pins s σ H Q I h => h.elim (h1.run pins s σ H Q I) (h2.run pins s σ H Q I)⟩
theorem pe_revA {X : Cx} {e : Expr} {te : TE} {k : Nat} {p1 p2 p3 pos : Pos} (he : PE X e te) : PE X (.Subscript e (.Slice none none (some (.UnaryOp .USub (.Constant (.int 1) k p1) p2)) p3) pos) (tOrE (tRevL X.K te) (tRevT X.K te)) := pe_or (pe_revL he) (pe_revT he)
end Vb
theorem Vb.sqd {K : PySem.W.Frag} {S H : L2.Hp} {a : PySem.Addr} {xs : List L2.V} (e : L2.Same S H) (h : S a = some (.tup xs)) : L2.SqT K H a xs := Vb.st_of (e _ _ h)
namespace Pu
open PySem PySem.Spec PyProof.Rows L2
/-! ### what is said of a value; of an object's content; of a slot -/
/-- a statement about a value -/
structure Asn where
  r : Hp → V → Prop
  up : ∀ {H H' : Hp} {v : V}, Same H H' → r H v → r H' v
def Vl (c : V) : Asn := ⟨fun _ v => v = c, fun _ h => h⟩
abbrev I (n : Int) : Asn := Vl (.int n)
abbrev Bo (b : Bool) : Asn := Vl (.bl b)
abbrev Sr (s : Str) : Asn := Vl (.str s)
abbrev No : Asn := Vl .non
abbrev Rf (a : Addr) : Asn := Vl (.ref a)
def Any : Asn := ⟨fun _ _ => True, fun _ h => h⟩
def Imp (A B : Asn) : Prop := ∀ S v, A.r S v → B.r S v
theorem Imp.rfl {A : Asn} : Imp A A := fun _ _ h => h
theorem Imp.any {A : Asn} : Imp A Any := fun _ _ _ => trivial
def All (S : Hp) : List Asn → List V → Prop
  | [], [] => True
  | A :: As, v :: vs => A.r S v ∧ All S As vs
  | _, _ => False
theorem All.up {S S' : Hp} (e : Same S S') : ∀ {As : List Asn} {vs : List V}, All S As vs → All S' As vs
  | [], [], h => h
  | A :: _, _ :: _, h => ⟨A.up e h.1, All.up e h.2⟩
  | [], _ :: _, h => h.elim
  | _ :: _, [], h => h.elim
theorem All.len {S : Hp} : ∀ {As : List Asn} {vs : List V}, All S As vs → As.length = vs.length
  | [], [], _ => rfl
  | _ :: _, _ :: _, h => by rw [List.length_cons, List.length_cons, All.len h.2]
  | [], _ :: _, h => h.elim
  | _ :: _, [], h => h.elim
theorem All.get {S : Hp} : ∀ {As : List Asn} {vs : List V} {i : Nat} {A : Asn}, All S As vs → As[i]? = some A → ∃ v, vs[i]? = some v ∧ A.r S v
  | [], _, _, _, _, e => by simp at e
  | _ :: _, [], _, _, h, _ => h.elim
  | A :: _, v :: _, 0, _, h, e => by
    cases Option.some.inj e
    exact ⟨v, rfl, h.1⟩
  | _ :: As, _ :: vs, i + 1, A, h, e => by
    obtain ⟨v, a, b⟩ := All.get (As := As) (vs := vs) (i := i) h.2 (by simpa using e)
    exact ⟨v, by simpa using a, b⟩
theorem All.at_ {S : Hp} {As : List Asn} {vs : List V} {i : Nat} {v : V} (h : All S As vs) (e : vs[i]? = some v) : ∃ A, As[i]? = some A ∧ A.r S v := by
  have li := (List.getElem?_eq_some_iff.mp e).1
  have l := h.len
  have ha : As[i]? = some As[i] := List.getElem?_eq_getElem (by omega)
  obtain ⟨u, hu, r⟩ := h.get ha
  rw [e] at hu
  cases hu
  exact ⟨_, ha, r⟩
theorem All.app {S : Hp} : ∀ {As Bs : List Asn} {vs us : List V}, All S As vs → All S Bs us → All S (As ++ Bs) (vs ++ us)
  | [], _, [], _, _, g => g
  | _ :: _, _, _ :: _, _, h, g => ⟨h.1, All.app h.2 g⟩
  | [], _, _ :: _, _, h, _ => h.elim
  | _ :: _, _, [], _, h, _ => h.elim
theorem All.one {S : Hp} {A : Asn} {v : V} (h : A.r S v) : All S [A] [v] := ⟨h, trivial⟩
theorem All.set {S : Hp} : ∀ {As : List Asn} {vs : List V} (i : Nat) {A : Asn} {v : V}, All S As vs → A.r S v → All S (As.set i A) (vs.set i v)
  | [], [], _, _, _, h, _ => h
  | _ :: _, _ :: _, 0, _, _, h, g => ⟨g, h.2⟩
  | _ :: _, _ :: _, i + 1, _, _, h, g => ⟨h.1, All.set i h.2 g⟩
  | [], _ :: _, _, _, _, h, _ => h.elim
  | _ :: _, [], _, _, _, h, _ => h.elim
theorem All.drop {S : Hp} : ∀ {As : List Asn} {vs : List V} (n : Nat), All S As vs → All S (As.drop n) (vs.drop n)
  | _, _, 0, h => h
  | [], [], _ + 1, h => h
  | _ :: _, _ :: _, n + 1, h => All.drop n h.2
  | [], _ :: _, _ + 1, h => h.elim
  | _ :: _, [], _ + 1, h => h.elim
theorem All.take {S : Hp} : ∀ {As : List Asn} {vs : List V} (n : Nat), All S As vs → All S (As.take n) (vs.take n)
  | _, _, 0, _ => trivial
  | [], [], _ + 1, h => h
  | _ :: _, _ :: _, n + 1, h => ⟨h.1, All.take n h.2⟩
  | [], _ :: _, _ + 1, h => h.elim
  | _ :: _, [], _ + 1, h => h.elim
theorem All.rev {S : Hp} : ∀ {As : List Asn} {vs : List V}, All S As vs → All S As.reverse vs.reverse
  | [], [], h => h
  | _ :: _, _ :: _, h => by
    rw [List.reverse_cons, List.reverse_cons]
    exact All.app (All.rev h.2) (All.one h.1)
  | [], _ :: _, h => h.elim
  | _ :: _, [], h => h.elim
theorem All.vl {S : Hp} : ∀ {xs : List V} {vs : List V}, All S (xs.map Vl) vs → vs = xs
  | [], [], _ => rfl
  | _ :: _, _ :: _, h => by rw [h.1, All.vl h.2]
  | [], _ :: _, h => h.elim
  | _ :: _, [], h => h.elim
theorem All.of_vl {S : Hp} : ∀ (xs : List V), All S (xs.map Vl) xs
  | [] => trivial
  | _ :: xs => ⟨rfl, All.of_vl xs⟩
theorem All.map {S : Hp} {α : Type} {f : α → Asn} {g : α → V} (h : ∀ x, (f x).r S (g x)) : ∀ (xs : List α), All S (xs.map f) (xs.map g)
  | [] => trivial
  | x :: xs => ⟨h x, All.map h xs⟩
theorem All.ints {S : Hp} : ∀ {ns : List Int} {vs : List V}, All S (ns.map I) vs → vs = ns.map V.int
  | [], [], _ => rfl
  | _ :: _, _ :: _, h => by rw [h.1, All.ints h.2]; rfl
  | [], _ :: _, h => h.elim
  | _ :: _, [], h => h.elim
theorem All.of_ints {S : Hp} (ns : List Int) : All S (ns.map I) (ns.map V.int) := All.map (f := I) (g := V.int) (fun _ => rfl) ns
/-- what never changes, whoever made it -/
def Fix : HO → Prop
  | .tup _ => True
  | .frz _ _ => True
  | _ => False
instance : DecidablePred Fix := fun o => by cases o <;> first | exact isTrue trivial | exact isFalse fun h => h
inductive Imps : List Asn → List Asn → Prop
  | nil : Imps [] []
  | cons {A B : Asn} {As Bs : List Asn} : Imp A B → Imps As Bs → Imps (A :: As) (B :: Bs)
theorem Imps.rfl : ∀ {As : List Asn}, Imps As As
  | [] => .nil
  | _ :: _ => .cons Imp.rfl Imps.rfl
theorem Imps.all {S : Hp} {As Bs : List Asn} (i : Imps As Bs) : ∀ {vs : List V}, All S As vs → All S Bs vs := by
  induction i with
  | nil => exact fun h => h
  | cons a _ ih =>
    intro vs h
    cases vs with
    | nil => exact h.elim
    | cons v vs => exact ⟨a S v h.1, ih h.2⟩
/-- the content of an object -/
structure Cn where
  r : Hp → Addr → HO → Prop
  up : ∀ {H H' : Hp} {a : Addr} {o : HO}, Same H H' → r H a o → r H' a o
  nf : ∀ {H : Hp} {a : Addr} {o : HO}, r H a o → ¬ Fix o
/-- a list -/
def Lc (As : List Asn) : Cn := ⟨fun S _ o => ∃ xs, o = .lst xs ∧ All S As xs, fun e ⟨xs, h, g⟩ => ⟨xs, h, g.up e⟩, fun ⟨xs, h, _⟩ z => by rw [h] at z; exact z⟩
theorem Imp.l {As Bs : List Asn} (i : Imps As Bs) : ∀ {S : Hp} {a : Addr} {o : HO}, (Lc As).r S a o → (Lc Bs).r S a o := fun ⟨xs, h, g⟩ => ⟨xs, h, i.all g⟩
def L (As : List Asn) : Asn := ⟨fun S v => ∃ a xs, v = .ref a ∧ S a = some (.lst xs) ∧ All S As xs, fun e ⟨a, xs, h, g, k⟩ => ⟨a, xs, h, e _ _ g, k.up e⟩⟩
def Tu (K : PySem.W.Frag) (As : List Asn) : Asn := ⟨fun S v => ∃ a xs, v = .ref a ∧ S a = some (.tup xs) ∧ All S As xs, fun e ⟨a, xs, h, g, k⟩ => ⟨a, xs, h, e _ _ g, k.up e⟩⟩
theorem Imp.L {As Bs : List Asn} (i : Imps As Bs) : Imp (L As) (L Bs) := fun _ _ ⟨a, xs, h, g, k⟩ => ⟨a, xs, h, g, i.all k⟩
theorem Imp.T {K : PySem.W.Frag} {As Bs : List Asn} (i : Imps As Bs) : Imp (Tu K As) (Tu K Bs) := fun _ _ ⟨a, xs, h, g, k⟩ => ⟨a, xs, h, g, i.all k⟩
/-- a list or a tuple -/
def Sq (K : PySem.W.Frag) (As : List Asn) : Asn := ⟨fun S v => ∃ a xs, v = .ref a ∧ (S a = some (.lst xs) ∨ S a = some (.tup xs)) ∧ All S As xs, fun e ⟨a, xs, h, g, k⟩ => ⟨a, xs, h, g.imp (e _ _) (e _ _), k.up e⟩⟩
theorem Imp.LS {K : PySem.W.Frag} {As : List Asn} : Imp (Pu.L As) (Sq K As) := fun _ _ ⟨a, xs, h, g, k⟩ => ⟨a, xs, h, .inl g, k⟩
theorem Imp.TS {K : PySem.W.Frag} {As : List Asn} : Imp (Tu K As) (Sq K As) := fun _ _ ⟨a, xs, h, g, k⟩ => ⟨a, xs, h, .inr g, k⟩
/-- data of any kind -/
def D (K : PySem.W.Frag) (d : PyData) : Asn := ⟨fun S v => Dp K S v d, fun e h => Vb.dp_same e _ _ h⟩
inductive Sl where
  /-- nothing is known -/
  | un
  | v (A : Asn)
  /-- an object that this slot alone knows -/
  | o (C : Cn)
abbrev Ev := List Sl
structure Ct (so : Option Addr) where
  B : Hp
  H0 : Hp
  /-- what somebody further out holds -/
  G : Hp
/-- what a call keeps: all but the store -/
structure Frm (so : Option Addr) (H0 H : Hp) : Prop where
  k : ∀ b o, so ≠ some b → H0 b = some o → H b = some o
  s : ∀ st, so = some st → Vb.StoreAt H st
  hd : ∀ st, so = some st → ∀ l r, H0 st = some (.lst (.ref l :: r)) → ∃ r', H st = some (.lst (.ref l :: r'))
theorem Frm.fr {st : Addr} {H0 H : Hp} (f : Frm (some st) H0 H) : Vb.Fr st H0 H := ⟨fun b o n h => f.k b o (fun z => n (Option.some.inj z).symm) h, fun l r h => f.hd st rfl l r h⟩
theorem Frm.of_fr {st : Addr} {H0 H : Hp} (f : Vb.Fr st H0 H) (s : Vb.StoreAt H st) : Frm (some st) H0 H := ⟨fun b o n h => f.k b o (fun z => n (by rw [z])) h, fun st' e => by cases e; exact s, fun st' e l r h => by cases e; exact f.hd l r h⟩
theorem Frm.same {so : Option Addr} {H0 H H' : Hp} (f : Frm so H0 H) (e : Same H H') : Frm so H0 H' := ⟨fun b o n h => e _ _ (f.k b o n h), fun st h => (f.s st h).same e, fun st h l r g => (f.hd st h l r g).elim fun r' g' => ⟨r', e _ _ g'⟩⟩
theorem Frm.of_same {H0 H : Hp} (e : Same H0 H) : Frm none H0 H := ⟨fun b o _ h => e _ _ h, fun _ z => (by cases z), fun _ z => (by cases z)⟩
theorem Frm.to_same {H0 H : Hp} (f : Frm none H0 H) : Same H0 H := fun b o h => f.k b o (fun z => by cases z) h
theorem Frm.trans {so : Option Addr} {H0 H H' : Hp} (f : Frm so H0 H) (g : Frm so H H') : Frm so H0 H' := ⟨fun b o n h => g.k b o n (f.k b o n h), g.s, fun st h l r z => (f.hd st h l r z).elim fun r' z' => g.hd st h l r' z'⟩
theorem Frm.refl {so : Option Addr} {H : Hp} (s : ∀ st, so = some st → Vb.StoreAt H st) : Frm so H H := ⟨fun _ _ _ h => h, s, fun _ _ _ r h => ⟨r, h⟩⟩
theorem Frm.none_of {so : Option Addr} {H0 H : Hp} {p : Addr} (f : Frm so H0 H) (n : H p = none) : H0 p = none := by
  cases h : H0 p with
  | none => rfl
  | some o =>
    by_cases z : so = some p
    · obtain ⟨l, ns, a, b, c, d, _, h1, _⟩ := f.s p z
      rw [n] at h1
      cases h1
    · have := f.k p o z h
      rw [n] at this
      cases this
def SlOk (S H : Hp) : Sl → Option V → Prop
  | .un, _ => True
  | .v A, u => ∃ x, u = some x ∧ A.r S x
  | .o C, u => ∃ a ob, u = some (.ref a) ∧ H a = some ob ∧ C.r S a ob
def Own (env : Ev) (σ : L2.St) (i : Nat) (a : Addr) : Prop := (∃ C, env[i]? = some (.o C)) ∧ σ[i]? = some (some (.ref a))
structure Rep {so : Option Addr} (c : Ct so) (S : Hp) (env : Ev) (σ : L2.St) (H : Hp) : Prop where
  frm : Frm so c.H0 H
  bs : Same c.B S
  sh : Same S H
  nw : ∀ b o, S b = some o → c.B b = some o ∨ c.H0 b = none ∨ Fix o
  sf : ∀ st, so = some st → S st = none
  len : env.length = σ.length
  s0 : ∀ st, so = some st → Vb.StoreAt c.H0 st
  sl : ∀ (i : Nat) (s : Sl), env[i]? = some s → ∃ u : Option V, σ[i]? = some u ∧ SlOk S H s u
  dj : ∀ i j a, Own env σ i a → Own env σ j a → i = j
  fr : ∀ i a, Own env σ i a → c.H0 a = none ∧ S a = none
  gh : ∀ b o, c.G b = some o → H b = some o ∧ c.H0 b = none ∧ S b = none ∧ (¬ Fix o) ∧ ∀ i, ¬ Own env σ i b
inductive Rs where
  | v (A : Asn)
  | o (C : Cn)
  | cp (i : Nat)
def ROk {so : Option Addr} (c : Ct so) (S H : Hp) (env : Ev) (σ : L2.St) : Rs → V → Prop
  | .v A, x => A.r S x
  | .o C, x => ∃ a ob, x = .ref a ∧ H a = some ob ∧ C.r S a ob ∧ S a = none ∧ c.H0 a = none ∧ c.G a = none ∧ ∀ i, ¬ Own env σ i a
  | .cp i, x => σ[i]? = some (some x)
section
variable {so : Option Addr} {c : Ct so} {S S' : Hp} {env : Ev} {σ : L2.St} {H H' : Hp}
theorem SlOk.up {s : Sl} {u : Option V} (e : Same S S') (h : SlOk S H s u) (k : ∀ C a, s = .o C → u = some (.ref a) → H' a = H a) : SlOk S' H' s u := by
  cases s with
  | un => trivial
  | v A => obtain ⟨x, a, b⟩ := h; exact ⟨x, a, A.up e b⟩
  | o C => obtain ⟨a, ob, h1, h2, h3⟩ := h; exact ⟨a, ob, h1, by rw [k C a rfl h1]; exact h2, C.up e h3⟩
theorem Rep.own (R : Rep c S env σ H) {i : Nat} {C : Cn} (h : env[i]? = some (.o C)) : ∃ a ob, Own env σ i a ∧ σ[i]? = some (some (.ref a)) ∧ H a = some ob ∧ C.r S a ob := by
  obtain ⟨u, h1, a, ob, rfl, h3, h4⟩ := R.sl i _ h
  exact ⟨a, ob, ⟨⟨C, h⟩, h1⟩, h1, h3, h4⟩
theorem Rep.ownH (R : Rep c S env σ H) {i : Nat} {a : Addr} (h : Own env σ i a) : ∃ ob, H a = some ob := by
  obtain ⟨⟨C, h1⟩, h2⟩ := h
  obtain ⟨a', ob, _, g, g2, _⟩ := R.own h1
  rw [h2] at g
  cases g
  exact ⟨ob, g2⟩
/-- the heap and what is shared of it go on -/
theorem Rep.to (R : Rep c S env σ H) (f : Frm so H H') (e : Same S S') (g : Same S' H') (n : ∀ b o, S' b = some o → S b = some o ∨ H b = none ∨ Fix o) (k : ∀ i a, Own env σ i a → H' a = H a ∧ S' a = none) : Rep c S' env σ H' := by
  refine ⟨R.frm.trans f, R.bs.trans e, g, fun b o h => ?_, fun st z => ?_, R.len, R.s0, fun i s h => ?_, R.dj, fun i a h => ⟨(R.fr i a h).1, (k i a h).2⟩, fun b o h => ?_⟩
  · rcases n b o h with h | h | h
    · exact R.nw b o h
    · exact .inr (.inl (R.frm.none_of h))
    · exact .inr (.inr h)
  · cases h : S' st with
    | none => rfl
    | some o =>
      rcases n st o h with h' | h' | h'
      · rw [R.sf st z] at h'; cases h'
      · obtain ⟨l, ns, a, b, c, d, _, h1, _⟩ := R.frm.s st z
        rw [h'] at h1
        cases h1
      · obtain ⟨l, ns, a, b, c, d, _, h1, _⟩ := f.s st z
        rw [g st o h] at h1
        cases h1
        exact h'.elim
  · obtain ⟨u, h1, h2⟩ := R.sl i s h
    refine ⟨u, h1, h2.up e fun C a e1 e2 => ?_⟩
    subst e1 e2
    exact (k i a ⟨⟨C, h⟩, h1⟩).1
  · obtain ⟨h1, h2, h3, hf, h4⟩ := R.gh b o h
    have hb : H' b = some o := f.k b o (fun z => by
      obtain ⟨_, _, _, _, _, _, _, y, _⟩ := R.s0 b z
      rw [h2] at y
      cases y) h1
    refine ⟨hb, h2, ?_, hf, h4⟩
    · cases y : S' b with
      | none => rfl
      | some u =>
        rcases n b u y with y' | y' | y'
        · rw [h3] at y'; cases y'
        · rw [h1] at y'; cases y'
        · rw [g b u y] at hb
          cases hb
          exact absurd y' hf
theorem Rep.stf (R : Rep c S env σ H) : ∀ st, so = some st → Vb.StoreAt H st := R.frm.s
theorem Rep.not_own (R : Rep c S env σ H) {p : Addr} (n : H p = none) (i : Nat) : ¬ Own env σ i p := fun h => by
  obtain ⟨ob, z⟩ := R.ownH h
  rw [n] at z
  cases z
theorem Rep.s_none (R : Rep c S env σ H) {p : Addr} (n : H p = none) : S p = none := by
  cases h : S p with
  | none => rfl
  | some o =>
    have := R.sh p o h
    rw [n] at this
    cases this
theorem Rep.g_none (R : Rep c S env σ H) {p : Addr} (n : H p = none) : c.G p = none := by
  cases h : c.G p with
  | none => rfl
  | some o =>
    have := (R.gh p o h).1
    rw [n] at this
    cases this
/-- only the heap grows -/
theorem Rep.grow (R : Rep c S env σ H) (e : Same H H') : Rep c S env σ H' := R.to ((Frm.refl R.stf).same e) (Same.refl S) (R.sh.trans e) (fun _ _ h => .inl h) fun i a h => by
  obtain ⟨ob, z⟩ := R.ownH h
  exact ⟨by rw [z]; exact e _ _ z, (R.fr i a h).2⟩
/-- a new object, which is shared -/
theorem Rep.new (R : Rep c S env σ H) {p : Addr} {ob : HO} (n : H p = none) : Rep c (upd S p ob) env σ (upd H p ob) := R.to ((Frm.refl R.stf).same (Vb.same_new n)) (Vb.same_new (R.s_none n)) (fun b o h => by
    by_cases z : b = p
    · subst z; rw [upd_same] at h ⊢; exact h
    · rw [upd_ne z] at h ⊢; exact R.sh b o h) (fun b o h => by
    by_cases z : b = p
    · subst z; exact .inr (.inl n)
    · rw [upd_ne z] at h; exact .inl h) fun i a h => by
  have z : a ≠ p := fun z => R.not_own n i (z ▸ h)
  exact ⟨by rw [upd_ne z], by rw [upd_ne z]; exact (R.fr i a h).2⟩
/-- a new object, which nobody else knows -/
theorem Rep.newO (R : Rep c S env σ H) {p : Addr} {ob : HO} {C : Cn} (n : H p = none) (h : C.r S p ob) : Rep c S env σ (upd H p ob) ∧ ROk c S (upd H p ob) env σ (.o C) (.ref p) :=
  ⟨R.grow (Vb.same_new n), p, ob, rfl, upd_same, h, R.s_none n, R.frm.none_of n, R.g_none n, R.not_own n⟩
/-- what was one's own is shared from here on -/
theorem Rep.share (R : Rep c S env σ H) {a : Addr} {ob : HO} (h : H a = some ob) (n : S a = none) (n0 : c.H0 a = none) (ng : c.G a = none) (no : ∀ i, ¬ Own env σ i a) : Rep c (upd S a ob) env σ H := by
  refine ⟨R.frm, R.bs.trans (Vb.same_new n), fun b o g => ?_, fun b o g => ?_, fun st z => ?_, R.len, R.s0, fun i s g => ?_, R.dj, fun i b g => ⟨(R.fr i b g).1, ?_⟩, fun b o g => ⟨(R.gh b o g).1, (R.gh b o g).2.1, ?_, (R.gh b o g).2.2.2⟩⟩
  · by_cases z : b = a
    · subst z; rw [upd_same] at g; rw [h]; exact g
    · rw [upd_ne z] at g; exact R.sh b o g
  · by_cases z : b = a
    · subst z; exact .inr (.inl n0)
    · rw [upd_ne z] at g; exact R.nw b o g
  · by_cases e : st = a
    · subst e
      obtain ⟨_, _, _, _, _, _, _, g, _⟩ := R.s0 st z
      rw [n0] at g
      cases g
    · rw [upd_ne e]; exact R.sf st z
  · obtain ⟨u, h1, h2⟩ := R.sl i s g
    exact ⟨u, h1, h2.up (Vb.same_new n) fun _ _ _ _ => rfl⟩
  · have z : b ≠ a := fun z => no i (z ▸ g)
    rw [upd_ne z]
    exact (R.fr i b g).2
  · have z : b ≠ a := fun z => by rw [z, ng] at g; cases g
    rw [upd_ne z]
    exact (R.gh b o g).2.2.1
end
end Pu
namespace Pu
open PySem PySem.Spec PyProof.Rows L2
theorem set_self {α : Type} : ∀ {l : List α} {i : Nat} {x : α}, l[i]? = some x → l.set i x = l
  | [], _, _, h => by simp at h
  | y :: l, 0, x, h => by cases Option.some.inj h; rfl
  | y :: l, i + 1, x, h => by rw [List.set_cons_succ, set_self (l := l) (i := i) (by simpa using h)]
section
variable {so : Option Addr} {c : Ct so} {S S' : Hp} {env : Ev} {σ : L2.St} {H H' : Hp}
theorem Own.set {i j : Nat} {s : Sl} {u : Option V} {a : Addr} (h : Own (env.set i s) (σ.set i u) j a) : (j ≠ i ∧ Own env σ j a) ∨ (j = i ∧ (∃ C, s = .o C) ∧ u = some (.ref a)) := by
  obtain ⟨⟨C, h1⟩, h2⟩ := h
  by_cases z : j = i
  · subst z
    refine .inr ⟨rfl, ?_, ?_⟩
    · have li := (List.getElem?_eq_some_iff.mp h1).1
      rw [List.getElem?_set_self (by rw [List.length_set] at li; exact li)] at h1
      exact ⟨C, Option.some.inj h1⟩
    · have li := (List.getElem?_eq_some_iff.mp h2).1
      rw [List.getElem?_set_self (by rw [List.length_set] at li; exact li)] at h2
      exact Option.some.inj h2
  · rw [List.getElem?_set_ne (Ne.symm z)] at h1 h2
    exact .inl ⟨z, ⟨C, h1⟩, h2⟩
theorem Rep.set (R : Rep c S env σ H) (i : Nat) {s : Sl} {u : Option V} (h : SlOk S H s u) (o : ∀ C a, s = .o C → u = some (.ref a) → c.H0 a = none ∧ S a = none ∧ c.G a = none ∧ ∀ j, j ≠ i → ¬ Own env σ j a) : Rep c S (env.set i s) (σ.set i u) H := by
  refine ⟨R.frm, R.bs, R.sh, R.nw, R.sf, by rw [List.length_set, List.length_set]; exact R.len, R.s0, fun j t g => ?_, fun j k a h1 h2 => ?_, fun j a g => ?_, fun b ob g => ⟨(R.gh b ob g).1, (R.gh b ob g).2.1, (R.gh b ob g).2.2.1, (R.gh b ob g).2.2.2.1, fun j y => ?_⟩⟩
  · by_cases z : j = i
    · subst z
      have li := (List.getElem?_eq_some_iff.mp g).1
      rw [List.length_set] at li
      rw [List.getElem?_set_self li] at g
      cases Option.some.inj g
      exact ⟨u, by rw [List.getElem?_set_self (by rw [← R.len]; exact li)], h⟩
    · rw [List.getElem?_set_ne (Ne.symm z)] at g ⊢
      exact R.sl j t g
  · rcases h1.set with ⟨n1, g1⟩ | ⟨e1, ⟨C1, c1⟩, u1⟩
    · rcases h2.set with ⟨n2, g2⟩ | ⟨e2, ⟨C2, c2⟩, u2⟩
      · exact R.dj j k a g1 g2
      · exact absurd g1 ((o C2 a c2 u2).2.2.2 j n1)
    · rcases h2.set with ⟨n2, g2⟩ | ⟨e2, ⟨C2, c2⟩, u2⟩
      · exact absurd g2 ((o C1 a c1 u1).2.2.2 k n2)
      · rw [e1, e2]
  · rcases g.set with ⟨n1, g1⟩ | ⟨e1, ⟨C1, c1⟩, u1⟩
    · exact R.fr j a g1
    · exact ⟨(o C1 a c1 u1).1, (o C1 a c1 u1).2.1⟩
  · rcases y.set with ⟨n1, g1⟩ | ⟨e1, ⟨C1, c1⟩, u1⟩
    · exact (R.gh b ob g).2.2.2.2 j g1
    · have := (o C1 b c1 u1).2.2.1
      rw [g] at this
      cases this
theorem Rep.setV (R : Rep c S env σ H) (i : Nat) {A : Asn} {x : V} (h : A.r S x) : Rep c S (env.set i (.v A)) (σ.set i (some x)) H := R.set i ⟨x, rfl, h⟩ fun C a e => by cases e
theorem Rep.setU (R : Rep c S env σ H) (i : Nat) (u : Option V) : Rep c S (env.set i .un) (σ.set i u) H := R.set i trivial fun C a e => by cases e
theorem Rep.setO (R : Rep c S env σ H) (i : Nat) {C : Cn} {x : V} (h : ROk c S H env σ (.o C) x) : Rep c S (env.set i (.o C)) (σ.set i (some x)) H := by
  obtain ⟨a, ob, rfl, h1, h2, h3, h4, hg, h5⟩ := h
  exact R.set i ⟨a, ob, rfl, h1, h2⟩ fun C' a' e1 e2 => by cases e1; cases e2; exact ⟨h4, h3, hg, fun j _ => h5 j⟩
/-- slot i is forgotten -/
theorem Rep.drop (R : Rep c S env σ H) {i : Nat} {s : Sl} (h : env[i]? = some s) : Rep c S (env.set i .un) σ H := by
  obtain ⟨u, g, _⟩ := R.sl i s h
  have := R.setU i u
  rw [set_self g] at this
  exact this
theorem Rep.own_g (R : Rep c S env σ H) {i : Nat} {a : Addr} (h : Own env σ i a) : c.G a = none := by
  cases g : c.G a with
  | none => rfl
  | some o => exact absurd h ((R.gh a o g).2.2.2.2 i)
/-- what slot i alone knows is shared from here on -/
theorem Rep.frz (R : Rep c S env σ H) {i : Nat} {C : Cn} {A : Asn} (h : env[i]? = some (.o C)) (q : ∀ S' a ob, S' a = some ob → C.r S' a ob → A.r S' (.ref a)) : ∃ a S', σ[i]? = some (some (.ref a)) ∧ Same S S' ∧ Rep c S' (env.set i (.v A)) σ H ∧ A.r S' (.ref a) := by
  obtain ⟨a, ob, ow, h1, h2, h3⟩ := R.own h
  have f := R.fr i a ow
  have R1 := R.drop h
  have no : ∀ j, ¬ Own (env.set i .un) σ j a := fun j z => by
    have z' : Own (env.set i .un) (σ.set i (some (.ref a))) j a := by rw [set_self h1]; exact z
    rcases z'.set with ⟨n, g⟩ | ⟨_, ⟨C, e⟩, _⟩
    · exact n (R.dj _ _ _ g ow)
    · cases e
  have R2 := R1.share h2 f.2 f.1 (R.own_g ow) no
  have e := Vb.same_new (o := ob) f.2
  have q' := q _ a ob upd_same (C.up e h3)
  have R3 := R2.setV i q'
  rw [List.set_set, set_self h1] at R3
  exact ⟨a, _, h1, e, R3, q'⟩
/-- the object of slot i is changed -/
theorem Rep.mut (R : Rep c S env σ H) {i : Nat} {a : Addr} {C C' : Cn} {ob' : HO} (h : env[i]? = some (.o C)) (h1 : σ[i]? = some (some (.ref a))) (q : C'.r S a ob') : Rep c S (env.set i (.o C')) σ (upd H a ob') := by
  have ow : Own env σ i a := ⟨⟨C, h⟩, h1⟩
  have f := R.fr i a ow
  have ne : ∀ b o, c.H0 b = some o → b ≠ a := fun b o g z => by rw [z, f.1] at g; cases g
  refine ⟨⟨fun b o n g => ?_, fun st z => ?_, fun st z l r g => ?_⟩, R.bs, Vb.same_mut R.sh f.2, R.nw, R.sf, by rw [List.length_set]; exact R.len, R.s0, fun j t g => ?_, fun j k b g1 g2 => ?_, fun j b g => ?_, fun b o g => ?_⟩
  · rw [upd_ne (ne b o g)]; exact R.frm.k b o n g
  · subst z
    exact (R.s0 st rfl).mut f.1 R.frm.fr (R.frm.s st rfl)
  · obtain ⟨r', g'⟩ := R.frm.hd st z l r g
    exact ⟨r', by rw [upd_ne (ne _ _ g)]; exact g'⟩
  · by_cases z : j = i
    · subst z
      have li := (List.getElem?_eq_some_iff.mp g).1
      rw [List.length_set] at li
      rw [List.getElem?_set_self li] at g
      cases Option.some.inj g
      exact ⟨_, h1, a, ob', rfl, upd_same, q⟩
    · rw [List.getElem?_set_ne (Ne.symm z)] at g
      obtain ⟨u, g1, g2⟩ := R.sl j t g
      refine ⟨u, g1, g2.up (Same.refl S) fun C2 b e1 e2 => ?_⟩
      subst e1 e2
      exact upd_ne fun y => z (R.dj j i a (y ▸ ⟨⟨C2, g⟩, g1⟩) ow)
  · have t1 : ∀ m, Own (env.set i (.o C')) σ m b → Own env σ m b := fun m x => by
      have x' : Own (env.set i (.o C')) (σ.set i (some (.ref a))) m b := by rw [set_self h1]; exact x
      rcases x'.set with ⟨_, y⟩ | ⟨rfl, _, y⟩
      · exact y
      · cases y; exact ow
    exact R.dj j k b (t1 j g1) (t1 k g2)
  · have x' : Own (env.set i (.o C')) (σ.set i (some (.ref a))) j b := by rw [set_self h1]; exact g
    rcases x'.set with ⟨_, y⟩ | ⟨rfl, _, y⟩
    · exact R.fr j b y
    · cases y; exact f
  · obtain ⟨x1, x2, x3, xf, x4⟩ := R.gh b o g
    refine ⟨?_, x2, x3, xf, fun m x => ?_⟩
    · rw [upd_ne fun z => by rw [z, R.own_g ow] at g; cases g]; exact x1
    · have x' : Own (env.set i (.o C')) (σ.set i (some (.ref a))) m b := by rw [set_self h1]; exact x
      rcases x'.set with ⟨_, y⟩ | ⟨rfl, _, y⟩
      · exact x4 m y
      · cases y; exact x4 _ ow
theorem Rep.at_ (R : Rep c S env σ H) {i : Nat} {A : Asn} (h : env[i]? = some (.v A)) : ∃ x, σ[i]? = some (some x) ∧ A.r S x := by
  obtain ⟨u, g, x, rfl, q⟩ := R.sl i _ h
  exact ⟨x, g, q⟩
def Hd : Rs → Prop
  | .o _ => False
  | _ => True
theorem ROk.up {r : Rs} {x : V} {env' : Ev} (h : ROk c S H env σ r x) (d : Hd r) (e : Same S S') : ROk c S' H' env' σ r x := by
  cases r with
  | v A => exact A.up e h
  | o C => exact d.elim
  | cp i => exact h
/-- a result that is kept while the next one is found: a new list is shared -/
def Z (r : Rs) (k : Rs → Prop) : Prop :=
  match r with
  | .v A => k (.v A)
  | .cp i => k (.cp i)
  | .o C => ∃ As, C = Lc As ∧ k (.v (L As))
theorem z_v {A : Asn} {k : Rs → Prop} (h : k (.v A)) : Z (.v A) k := h
theorem z_cp {i : Nat} {k : Rs → Prop} (h : k (.cp i)) : Z (.cp i) k := h
theorem z_o {As : List Asn} {k : Rs → Prop} (h : k (.v (L As))) : Z (.o (Lc As)) k := ⟨As, rfl, h⟩
theorem ROk.share {C : Cn} {A : Asn} {x : V} (R : Rep c S env σ H) (h : ROk c S H env σ (.o C) x) (q : ∀ S' a ob, S' a = some ob → C.r S' a ob → A.r S' (.ref a)) : ∃ S', Same S S' ∧ Rep c S' env σ H ∧ A.r S' x := by
  obtain ⟨a, ob, rfl, h1, h2, h3, h4, hg, h5⟩ := h
  have e := Vb.same_new (o := ob) h3
  exact ⟨_, e, R.share h1 h3 h4 hg h5, q _ a ob upd_same (C.up e h2)⟩
theorem lc_L {As : List Asn} : ∀ (S' : Hp) (a : Addr) (ob : HO), S' a = some ob → (Lc As).r S' a ob → (L As).r S' (.ref a) := fun S' a ob h ⟨xs, e, g⟩ => ⟨a, xs, rfl, by rw [← e]; exact h, g⟩
theorem Z.go {r : Rs} {k : Rs → Prop} {x : V} (h : Z r k) (R : Rep c S env σ H) (q : ROk c S H env σ r x) : ∃ r' S', k r' ∧ Hd r' ∧ Same S S' ∧ Rep c S' env σ H ∧ ROk c S' H env σ r' x := by
  cases r with
  | v A => exact ⟨.v A, S, h, trivial, Same.refl S, R, q⟩
  | cp i => exact ⟨.cp i, S, h, trivial, Same.refl S, R, q⟩
  | o C =>
    obtain ⟨As, rfl, h⟩ := h
    obtain ⟨S', e, R', g⟩ := q.share R (A := L As) lc_L
    exact ⟨_, S', h, trivial, e, R', g⟩
end
/-! ### the judgements -/
/-- an expression -/
def E {so : Option Addr} (c : Ct so) (te : TE) (env : Ev) (k : Rs → Ev → Prop) : Prop := ∀ S σ H Q, Rep c S env σ H → (∀ S' x H' r env', k r env' → Same S S' → Rep c S' env' σ H' → ROk c S' H' env' σ r x → Q x H') → te σ H Q
/-- a test -/
def T {so : Option Addr} (c : Ct so) (t : TT) (env : Ev) (k : Bool → Ev → Prop) : Prop := ∀ S σ H Q, Rep c S env σ H → (∀ S' b H' env', k b env' → Same S S' → Rep c S' env' σ H' → Q b H') → t σ H Q
def Oks {so : Option Addr} (c : Ct so) (S H : Hp) (env : Ev) (σ : L2.St) : List Rs → List V → Prop
  | [], [] => True
  | r :: rs, x :: xs => (Hd r ∧ ROk c S H env σ r x) ∧ Oks c S H env σ rs xs
  | _, _ => False
/-- arguments -/
def EA {so : Option Addr} (c : Ct so) (t : TA) (env : Ev) (k : List Rs → Ev → Prop) : Prop := ∀ S σ H Q, Rep c S env σ H → (∀ S' xs H' rs env', k rs env' → Same S S' → Rep c S' env' σ H' → Oks c S' H' env' σ rs xs → Q xs H') → t σ H Q
def R1 {so : Option Addr} (c : Ct so) (f : V → Hp → VK → Prop) (r : Rs) (env : Ev) (k : Rs → Ev → Prop) : Prop := ∀ S σ H x Q, Rep c S env σ H → Hd r → ROk c S H env σ r x → (∀ S' y H' r' env', k r' env' → Same S S' → Rep c S' env' σ H' → ROk c S' H' env' σ r' y → Q y H') → f x H Q
def R2 {so : Option Addr} (c : Ct so) (f : L2.R2) (r s : Rs) (env : Ev) (k : Rs → Ev → Prop) : Prop := ∀ S σ H x y Q, Rep c S env σ H → Hd r → Hd s → ROk c S H env σ r x → ROk c S H env σ s y → (∀ S' z H' r' env', k r' env' → Same S S' → Rep c S' env' σ H' → ROk c S' H' env' σ r' z → Q z H') → f x y H Q
def RL {so : Option Addr} (c : Ct so) (f : List V → Hp → VK → Prop) (rs : List Rs) (env : Ev) (k : Rs → Ev → Prop) : Prop := ∀ S σ H xs Q, Rep c S env σ H → Oks c S H env σ rs xs → (∀ S' z H' r' env', k r' env' → Same S S' → Rep c S' env' σ H' → ROk c S' H' env' σ r' z → Q z H') → f xs H Q
structure PEnds where
  nx : Ev → Prop
  rt : Rs → Prop
  bk : Ev → Prop
  ct : Ev → Prop
/-- what is returned -/
def RtOk {so : Option Addr} (c : Ct so) (H0 S H : Hp) : Rs → V → Prop
  | .v A, x => A.r S x
  | .o C, x => ∃ a ob, x = .ref a ∧ H a = some ob ∧ C.r S a ob ∧ S a = none ∧ H0 a = none ∧ c.G a = none
  | .cp _, _ => False
structure EOk {so : Option Addr} (c : Ct so) (S : Hp) (P : PEnds) (d : L2.Ends) : Prop where
  nx : ∀ S' env σ H, P.nx env → Same S S' → Rep c S' env σ H → d.nx σ H
  rt : ∀ S' env σ H r x, P.rt r → Same S S' → Rep c S' env σ H → RtOk c c.H0 S' H r x → d.rt x H
  bk : ∀ S' env σ H, P.bk env → Same S S' → Rep c S' env σ H → d.bk σ H
  ct : ∀ S' env σ H, P.ct env → Same S S' → Rep c S' env σ H → d.ct σ H
/-- statements -/
def W {so : Option Addr} (c : Ct so) (ts : TS) (env : Ev) (P : PEnds) : Prop := ∀ S σ H d, Rep c S env σ H → EOk c S P d → ts d σ H
/-- a target -/
def G {so : Option Addr} (c : Ct so) (g : TG) (r : Rs) (env : Ev) (k : Ev → Prop) : Prop := ∀ S σ H x Q, Rep c S env σ H → ROk c S H env σ r x → (∀ S' σ' H' env', k env' → Same S S' → Rep c S' env' σ' H' → Q σ' H') → g x σ H Q
end Pu
namespace Pu
open PySem PySem.Spec PyProof.Rows L2
section
variable {so : Option Addr} {c : Ct so} {K : PySem.W.Frag} {env : Ev} {k : Rs → Ev → Prop} {kt : Bool → Ev → Prop} {te ta tb tc : TE} {t u : TT}
theorem E.imp {k' : Rs → Ev → Prop} (h : E c te env k) (q : ∀ r e, k r e → k' r e) : E c te env k' := fun S σ H Q R z => h S σ H Q R fun S' x H' r env' g => z S' x H' r env' (q r env' g)
/-- a result may be told otherwise -/
def RImp : Rs → Rs → Prop
  | .v A, .v B => Imp A B
  | .o C, .o C' => ∀ {S : Hp} {a : Addr} {o : HO}, C.r S a o → C'.r S a o
  | .cp i, .cp j => i = j
  | _, _ => False
theorem E.told (h : E c te env fun r e => ∃ r', RImp r r' ∧ k r' e) : E c te env k := fun S σ H Q R z => h S σ H Q R fun S' x H' r env' ⟨r', i, g⟩ e R' q => z S' x H' r' env' g e R' (by
  cases r <;> cases r' <;> first | exact i.elim | skip
  · exact i _ _ q
  · obtain ⟨a, ob, e, h1, h2, h3⟩ := q; exact ⟨a, ob, e, h1, i h2, h3⟩
  · cases (show _ = _ from i); exact q)
theorem e_var {i : Nat} {A : Asn} (h : env[i]? = some (.v A)) (q : k (.v A) env) : E c (tVar i) env k := fun S σ H Q R z => by
  obtain ⟨x, g, a⟩ := R.at_ h
  exact ⟨x, g, z S x H _ env q (Same.refl S) R a⟩
theorem e_varO {i : Nat} {C : Cn} (h : env[i]? = some (.o C)) (q : k (.cp i) env) : E c (tVar i) env k := fun S σ H Q R z => by
  obtain ⟨a, ob, _, g, _⟩ := R.own h
  exact ⟨_, g, z S _ H (.cp i) env q (Same.refl S) R g⟩
theorem e_c {x : V} (q : k (.v (Vl x)) env) : E c (tC x) env k := fun S σ H Q R z => z S x H _ env q (Same.refl S) R rfl
theorem e_op {f : L2.R2} (h : E c ta env fun r env1 => Z r fun r1 => E c tb env1 fun s env2 => Z s fun s1 => R2 c f r1 s1 env2 k) : E c (tOp f ta tb) env k := fun S σ H Q R z => by
  refine h S σ H _ R fun S1 x H1 r env1 g1 e1 R1 q1 => ?_
  obtain ⟨r1, S2, g2, d2, e2, R2, q2⟩ := g1.go R1 q1
  refine g2 S2 σ H1 _ R2 fun S3 y H3 s env3 g3 e3 R3 q3 => ?_
  obtain ⟨s1, S4, g4, d4, e4, R4, q4⟩ := g3.go R3 q3
  exact g4 S4 σ H3 x y Q R4 d2 d4 (q2.up d2 (e3.trans e4)) q4 fun S5 w H5 r5 env5 g5 e5 R5 q5 => z S5 w H5 r5 env5 g5 (e1.trans (e2.trans (e3.trans (e4.trans e5)))) R5 q5
theorem e_un {f : V → Hp → VK → Prop} (h : E c ta env fun r env1 => Z r fun r1 => R1 c f r1 env1 k) : E c (tUn f ta) env k := fun S σ H Q R z => by
  refine h S σ H _ R fun S1 x H1 r env1 g1 e1 R1 q1 => ?_
  obtain ⟨r1, S2, g2, d2, e2, R2, q2⟩ := g1.go R1 q1
  exact g2 S2 σ H1 x Q R2 d2 q2 fun S5 w H5 r5 env5 g5 e5 R5 q5 => z S5 w H5 r5 env5 g5 (e1.trans (e2.trans e5)) R5 q5
/-- a value of two values, the heap as it was -/
theorem r2_c {f : L2.R2} {x y w : V} (h : ∀ H Q, Q w H → f x y H Q) (q : k (.v (Vl w)) env) : R2 c f (.v (Vl x)) (.v (Vl y)) env k := fun S σ H x' y' Q R _ _ qx qy z => by
  cases (show x' = x from qx)
  cases (show y' = y from qy)
  exact h H Q (z S w H _ env q (Same.refl S) R rfl)
theorem r1_c {f : V → Hp → VK → Prop} {x w : V} (h : ∀ H Q, Q w H → f x H Q) (q : k (.v (Vl w)) env) : R1 c f (.v (Vl x)) env k := fun S σ H x' Q R _ qx z => by
  cases (show x' = x from qx)
  exact h H Q (z S w H _ env q (Same.refl S) R rfl)
theorem r_I0 {g : Int → Int → V} {a b : Int} (q : k (.v (Vl (g a b))) env) : R2 c (rI0 g) (.v (I a)) (.v (I b)) env k := r2_c (fun _ _ => Vb.r_I0) q
theorem r_I {C : Int → Int → Prop} {g : Int → Int → V} {a b : Int} (h : C a b) (q : k (.v (Vl (g a b))) env) : R2 c (rI C g) (.v (I a)) (.v (I b)) env k := r2_c (fun _ _ => Vb.r_I h) q
theorem r_U {g : Int → V} {a : Int} (q : k (.v (Vl (g a))) env) : R1 c (rU g) (.v (I a)) env k := r1_c (fun _ _ => Vb.r_U) q
theorem r_eqI {a b : Int} (q : k (.v (Bo (decide (a = b)))) env) : R2 c rEq (.v (I a)) (.v (I b)) env k := r2_c (fun _ _ => Vb.r_eqI) q
theorem r_neI {a b : Int} (q : k (.v (Bo (!decide (a = b)))) env) : R2 c rNe (.v (I a)) (.v (I b)) env k := r2_c (fun _ _ => Vb.r_neI) q
theorem r_eqBs {a : Bool} (q : k (.v (Bo true)) env) : R2 c rEq (.v (Bo a)) (.v (Bo a)) env k := r2_c (fun _ _ => Vb.r_eqBs) q
theorem r_eqB {a b : Bool} (q : k (.v (Bo (a == b))) env) : R2 c rEq (.v (Bo a)) (.v (Bo b)) env k := r2_c (fun _ _ => Vb.r_eqB) q
theorem r_neB {a b : Bool} (q : k (.v (Bo (!(a == b)))) env) : R2 c rNe (.v (Bo a)) (.v (Bo b)) env k := r2_c (fun _ _ => Vb.r_neB) q
theorem r_eqS {a b : Str} (q : k (.v (Bo (decide (a = b)))) env) : R2 c rEq (.v (Sr a)) (.v (Sr b)) env k := r2_c (fun _ _ => Vb.r_eqS) q
theorem r_neS {a b : Str} (q : k (.v (Bo (!decide (a = b)))) env) : R2 c rNe (.v (Sr a)) (.v (Sr b)) env k := r2_c (fun _ _ => Vb.r_neS) q
theorem r_isBl {a b : Bool} (q : k (.v (Bo (decide (a = b)))) env) : R2 c rIsB (.v (Bo a)) (.v (Bo b)) env k := r2_c (fun _ _ => Vb.r_isBl) q
theorem r_notBl {a b : Bool} (q : k (.v (Bo (!decide (a = b)))) env) : R2 c rNotB (.v (Bo a)) (.v (Bo b)) env k := r2_c (fun _ _ => Vb.r_notBl) q
theorem r_isN {x : V} (q : k (.v (Bo (decide (x = .non)))) env) : R2 c Vb.rIsN (.v (Vl x)) (.v No) env k := r2_c (fun _ _ => Vb.r_isN) q
theorem r_notN {x : V} (q : k (.v (Bo (!decide (x = .non)))) env) : R2 c Vb.rNotN (.v (Vl x)) (.v No) env k := r2_c (fun _ _ => Vb.r_notN) q
theorem r_addS {i j : Str} (h : i.length + j.length ≤ sizeLine) (q : k (.v (Sr (i ++ j))) env) : R2 c Vb.rAddS (.v (Sr i)) (.v (Sr j)) env k := r2_c (fun _ _ => Vb.r_addS h) q
/-- a value that is no None -/
class NoN (A : Asn) : Prop where
  n : ∀ S v, A.r S v → v ≠ .non
instance {As} : NoN (L As) := ⟨fun _ _ ⟨_, _, h, _⟩ z => by rw [h] at z; cases z⟩
instance {K As} : NoN (Tu K As) := ⟨fun _ _ ⟨_, _, h, _⟩ z => by rw [h] at z; cases z⟩
instance {K As} : NoN (Sq K As) := ⟨fun _ _ ⟨_, _, h, _⟩ z => by rw [h] at z; cases z⟩
theorem r_isN_no {A : Asn} [NoN A] (q : k (.v (Bo false)) env) : R2 c Vb.rIsN (.v A) (.v No) env k := fun S σ H x y Q R _ _ qx qy z => by
  cases (show y = .non from qy)
  refine Vb.r_isN ?_
  rw [decide_eq_false (NoN.n S x qx)]
  exact z S _ H _ env q (Same.refl S) R rfl
theorem r_notN_no {A : Asn} [NoN A] (q : k (.v (Bo true)) env) : R2 c Vb.rNotN (.v A) (.v No) env k := fun S σ H x y Q R _ _ qx qy z => by
  cases (show y = .non from qy)
  refine Vb.r_notN ?_
  rw [decide_eq_false (NoN.n S x qx)]
  exact z S _ H _ env q (Same.refl S) R rfl
-- tests
theorem t_B (h : E c te env fun r env1 => ∃ b, r = .v (Bo b) ∧ kt b env1) : T c (tB te) env kt := fun S σ H Q R z => by
  refine h S σ H _ R fun S1 x H1 r env1 g1 e1 R1 q1 => ?_
  obtain ⟨b, rfl, g⟩ := g1
  exact ⟨b, q1, z S1 b H1 env1 g e1 R1⟩
theorem t_test (h : E c te env fun r env1 => ∃ b, r = .v (Bo b) ∧ kt b env1) : T c (tTest te) env kt := fun S σ H Q R z => by
  refine h S σ H _ R fun S1 x H1 r env1 g1 e1 R1 q1 => ?_
  obtain ⟨b, rfl, g⟩ := g1
  exact ⟨b, q1, z S1 b H1 env1 g e1 R1⟩
theorem q_bl {b : Bool} {env1 : Ev} (q : kt b env1) : ∃ b', Rs.v (Bo b) = .v (Bo b') ∧ kt b' env1 := ⟨b, rfl, q⟩
theorem t_not (h : T c t env fun b env1 => kt (!b) env1) : T c (tNot t) env kt := fun S σ H Q R z => h S σ H _ R fun S1 b H1 env1 g1 e1 R1 => z S1 _ H1 env1 g1 e1 R1
theorem t_and (h : T c t env fun b env1 => if b = true then T c u env1 kt else kt false env1) : T c (tAnd t u) env kt := fun S σ H Q R z => by
  refine h S σ H _ R fun S1 b H1 env1 g1 e1 R1 => ?_
  cases b with
  | true => rw [if_pos rfl] at g1 ⊢; exact g1 S1 σ H1 Q R1 fun S2 b H2 env2 g2 e2 R2 => z S2 b H2 env2 g2 (e1.trans e2) R2
  | false => rw [if_neg (by decide)] at g1 ⊢; exact z S1 _ H1 env1 g1 e1 R1
theorem t_or (h : T c t env fun b env1 => if b = true then kt true env1 else T c u env1 kt) : T c (tOr t u) env kt := fun S σ H Q R z => by
  refine h S σ H _ R fun S1 b H1 env1 g1 e1 R1 => ?_
  cases b with
  | false => rw [if_neg (by decide)] at g1 ⊢; exact g1 S1 σ H1 Q R1 fun S2 b H2 env2 g2 e2 R2 => z S2 b H2 env2 g2 (e1.trans e2) R2
  | true => rw [if_pos rfl] at g1 ⊢; exact z S1 _ H1 env1 g1 e1 R1
theorem t_yes (q : kt true env) : T c tYes env kt := fun S σ H Q R z => z S true H env q (Same.refl S) R
theorem e_if (h : T c t env fun b env1 => if b = true then E c ta env1 k else E c tb env1 k) : E c (tIf t ta tb) env k := fun S σ H Q R z => by
  refine h S σ H _ R fun S1 b H1 env1 g1 e1 R1 => ?_
  cases b with
  | true => rw [if_pos rfl] at g1 ⊢; exact g1 S1 σ H1 Q R1 fun S2 x H2 r env2 g2 e2 R2 q => z S2 x H2 r env2 g2 (e1.trans e2) R2 q
  | false => rw [if_neg (by decide)] at g1 ⊢; exact g1 S1 σ H1 Q R1 fun S2 x H2 r env2 g2 e2 R2 q => z S2 x H2 r env2 g2 (e1.trans e2) R2 q
theorem e_andV (h : E c ta env fun r env1 => ∃ b, r = .v (Bo b) ∧ if b = true then E c tb env1 k else k (.v (Bo false)) env1) : E c (tAndV ta tb) env k := fun S σ H Q R z => by
  refine h S σ H _ R fun S1 x H1 r env1 g1 e1 R1 q1 => ?_
  obtain ⟨b, rfl, g⟩ := g1
  refine ⟨b, q1, ?_⟩
  cases b with
  | true => rw [if_pos rfl] at g ⊢; exact g S1 σ H1 Q R1 fun S2 x H2 r env2 g2 e2 R2 q => z S2 x H2 r env2 g2 (e1.trans e2) R2 q
  | false => rw [if_neg (by decide)] at g ⊢; exact z S1 _ H1 _ env1 g e1 R1 rfl
theorem e_orV (h : E c ta env fun r env1 => ∃ b, r = .v (Bo b) ∧ if b = true then k (.v (Bo true)) env1 else E c tb env1 k) : E c (tOrV ta tb) env k := fun S σ H Q R z => by
  refine h S σ H _ R fun S1 x H1 r env1 g1 e1 R1 q1 => ?_
  obtain ⟨b, rfl, g⟩ := g1
  refine ⟨b, q1, ?_⟩
  cases b with
  | false => rw [if_neg (by decide)] at g ⊢; exact g S1 σ H1 Q R1 fun S2 x H2 r env2 g2 e2 R2 q => z S2 x H2 r env2 g2 (e1.trans e2) R2 q
  | true => rw [if_pos rfl] at g ⊢; exact z S1 _ H1 _ env1 g e1 R1 rfl
theorem e_notV (h : E c ta env fun r env1 => ∃ b, r = .v (Bo b) ∧ k (.v (Bo !b)) env1) : E c (tNotV ta) env k := fun S σ H Q R z => by
  refine h S σ H _ R fun S1 x H1 r env1 g1 e1 R1 q1 => ?_
  obtain ⟨b, rfl, g⟩ := g1
  exact ⟨b, q1, z S1 _ H1 _ env1 g e1 R1 rfl⟩
theorem q_blR {b : Bool} {P : Bool → Prop} (q : P b) : ∃ b', Rs.v (Bo b) = .v (Bo b') ∧ P b' := ⟨b, rfl, q⟩
theorem e_chain {r r' : L2.R2} (h : E c ta env fun a env1 => Z a fun a1 => E c tb env1 fun b env2 => Z b fun b1 => R2 c r a1 b1 env2 fun w env3 => ∃ x, w = .v (Bo x) ∧ if x = true then E c tc env3 fun d env4 => Z d fun d1 => R2 c r' b1 d1 env4 k else k (.v (Bo false)) env3) : E c (tChain r r' ta tb tc) env k := fun S σ H Q R z => by
  refine h S σ H _ R fun S1 x H1 r1 env1 g1 e1 R1 q1 => ?_
  obtain ⟨a1, S2, g2, d2, e2, R2, q2⟩ := g1.go R1 q1
  refine g2 S2 σ H1 _ R2 fun S3 y H3 s env3 g3 e3 R3 q3 => ?_
  obtain ⟨b1, S4, g4, d4, e4, R4, q4⟩ := g3.go R3 q3
  refine g4 S4 σ H3 x y _ R4 d2 d4 (q2.up d2 (e3.trans e4)) q4 fun S5 w H5 r5 env5 g5 e5 R5 q5 => ?_
  obtain ⟨b, rfl, g⟩ := g5
  refine ⟨b, q5, ?_⟩
  have ee := e1.trans (e2.trans (e3.trans (e4.trans e5)))
  cases b with
  | false => rw [if_neg (by decide)] at g ⊢; exact z S5 _ H5 _ env5 g ee R5 rfl
  | true =>
    rw [if_pos rfl] at g ⊢
    refine g S5 σ H5 _ R5 fun S6 v H6 s6 env6 g6 e6 R6 q6 => ?_
    obtain ⟨d1, S7, g7, d7, e7, R7, q7⟩ := g6.go R6 q6
    exact g7 S7 σ H6 y v Q R7 d4 d7 (q4.up d4 (e5.trans (e6.trans e7))) q7 fun S8 u H8 r8 env8 g8 e8 R8 q8 => z S8 u H8 r8 env8 g8 (ee.trans (e6.trans (e7.trans e8))) R8 q8
theorem t_chain {r r' : L2.R2} (h : E c (tChain r r' ta tb tc) env fun r env1 => ∃ b, r = .v (Bo b) ∧ kt b env1) : T c (tTest (tChain r r' ta tb tc)) env kt := t_test h
-- arguments
variable {ka : List Rs → Ev → Prop} {tr : TA}
theorem a_nil (q : ka [] env) : EA c tNil env ka := fun S σ H Q R z => z S [] H [] env q (Same.refl S) R trivial
theorem Oks.up {S S' H H' : Hp} {σ : L2.St} {env' : Ev} (e : Same S S') : ∀ {rs : List Rs} {xs : List V}, Oks c S H env σ rs xs → Oks c S' H' env' σ rs xs
  | [], [], h => h
  | _ :: _, _ :: _, h => ⟨⟨h.1.1, h.1.2.up h.1.1 e⟩, Oks.up e h.2⟩
  | [], _ :: _, h => h.elim
  | _ :: _, [], h => h.elim
theorem a_cons (h : E c te env fun r env1 => Z r fun r1 => EA c tr env1 fun rs env2 => ka (r1 :: rs) env2) : EA c (tCons te tr) env ka := fun S σ H Q R z => by
  refine h S σ H _ R fun S1 x H1 r env1 g1 e1 R1 q1 => ?_
  obtain ⟨r1, S2, g2, d2, e2, R2, q2⟩ := g1.go R1 q1
  exact g2 S2 σ H1 _ R2 fun S3 xs H3 rs env3 g3 e3 R3 q3 => z S3 (x :: xs) H3 (r1 :: rs) env3 g3 (e1.trans (e2.trans e3)) R3 ⟨⟨d2, q2.up d2 e3⟩, q3⟩
theorem e_CB {f : List V → Hp → VK → Prop} {ts : TA} (h : EA c ts env fun rs env1 => RL c f rs env1 k) : E c (tCB f ts) env k := fun S σ H Q R z => by
  refine h S σ H _ R fun S1 xs H1 rs env1 g1 e1 R1 q1 => ?_
  exact g1 S1 σ H1 xs Q R1 q1 fun S2 y H2 r env2 g2 e2 R2 q2 => z S2 y H2 r env2 g2 (e1.trans e2) R2 q2
theorem rl_c1 {f : List V → Hp → VK → Prop} {x w : V} (h : ∀ H Q, Q w H → f [x] H Q) (q : k (.v (Vl w)) env) : RL c f [.v (Vl x)] env k := fun S σ H xs Q R qs z => by
  obtain _ | ⟨x', _ | ⟨y', xs⟩⟩ := xs
  · exact qs.elim
  · cases (show x' = x from qs.1.2)
    exact h H Q (z S w H _ env q (Same.refl S) R rfl)
  · exact qs.2.elim
theorem rl_c2 {f : List V → Hp → VK → Prop} {x y w : V} (h : ∀ H Q, Q w H → f [x, y] H Q) (q : k (.v (Vl w)) env) : RL c f [.v (Vl x), .v (Vl y)] env k := fun S σ H xs Q R qs z => by
  obtain _ | ⟨x', _ | ⟨y', _ | ⟨z', xs⟩⟩⟩ := xs
  · exact qs.elim
  · exact qs.2.elim
  · cases (show x' = x from qs.1.2)
    cases (show y' = y from qs.2.1.2)
    exact h H Q (z S w H _ env q (Same.refl S) R rfl)
  · exact qs.2.2.elim
theorem r_abs {a : Int} (q : k (.v (I (if a < 0 then -a else a))) env) : RL c Vb.rAbs [.v (I a)] env k := rl_c1 (fun _ _ => Vb.r_abs) q
theorem r_max2 {a b : Int} (q : k (.v (I (if b > a then b else a))) env) : RL c Vb.rMax2 [.v (I a), .v (I b)] env k := rl_c2 (fun _ _ => Vb.r_max2) q
theorem r_min2 {a b : Int} (q : k (.v (I (if b < a then b else a))) env) : RL c Vb.rMin2 [.v (I a), .v (I b)] env k := rl_c2 (fun _ _ => Vb.r_min2) q
theorem r_int {a : Int} (q : k (.v (I a)) env) : RL c Vb.rInt [.v (I a)] env k := rl_c1 (fun _ _ => Vb.r_int) q
theorem r_intB {b : Bool} (q : k (.v (I (if b then 1 else 0))) env) : RL c Vb.rInt [.v (Bo b)] env k := rl_c1 (fun _ _ => Vb.r_intB) q
/-- r is a list of these -/
inductive IsL (env : Ev) : Rs → List Asn → Prop
  | v {As : List Asn} : IsL env (.v (L As)) As
  | cp {i : Nat} {As : List Asn} : env[i]? = some (.o (Lc As)) → IsL env (.cp i) As
theorem IsL.go {r : Rs} {As : List Asn} {S : Hp} {σ : L2.St} {H : Hp} {x : V} (h : IsL env r As) (R : Rep c S env σ H) (q : ROk c S H env σ r x) : ∃ a xs, x = .ref a ∧ H a = some (.lst xs) ∧ All S As xs := by
  cases h with
  | v =>
    obtain ⟨a, xs, rfl, s, g⟩ := q
    exact ⟨a, xs, rfl, R.sh _ _ s, g⟩
  | cp h =>
    obtain ⟨a, ob, _, h1, h2, xs, rfl, g⟩ := R.own h
    have q : σ[_]? = some (some x) := q
    rw [h1] at q
    cases q
    exact ⟨a, xs, rfl, h2, g⟩
/-- the value is a list or a tuple of these -/
def SqOf (K : PySem.W.Frag) (A : Asn) (Bs : List Asn) : Prop := ∀ S v, A.r S v → ∃ a xs, v = .ref a ∧ (S a = some (.lst xs) ∨ S a = some (.tup xs)) ∧ All S Bs xs
theorem SqOf.lst {K : PySem.W.Frag} {As : List Asn} : SqOf K (L As) As := fun _ _ ⟨a, xs, e, s, g⟩ => ⟨a, xs, e, .inl s, g⟩
theorem SqOf.tup {K : PySem.W.Frag} {As : List Asn} : SqOf K (Tu K As) As := fun _ _ ⟨a, xs, e, s, g⟩ => ⟨a, xs, e, .inr s, g⟩
theorem SqOf.seq {K : PySem.W.Frag} {As : List Asn} : SqOf K (Sq K As) As := fun _ _ ⟨a, xs, e, s, g⟩ => ⟨a, xs, e, s, g⟩
/-- r is a list or a tuple of these -/
inductive IsA (K : PySem.W.Frag) (env : Ev) : Rs → List Asn → Prop
  | l {r : Rs} {As : List Asn} : IsL env r As → IsA K env r As
  | t {As : List Asn} : IsA K env (.v (Tu K As)) As
  | q {As : List Asn} : IsA K env (.v (Sq K As)) As
  | c {A : Asn} {As : List Asn} : SqOf K A As → IsA K env (.v A) As
theorem IsA.go {r : Rs} {As : List Asn} {S : Hp} {σ : L2.St} {H : Hp} {x : V} (h : IsA K env r As) (R : Rep c S env σ H) (q : ROk c S H env σ r x) : ∃ a xs, x = .ref a ∧ (H a = some (.lst xs) ∨ SqT K H a xs) ∧ All S As xs := by
  cases h with
  | l h =>
    obtain ⟨a, xs, e, s, g⟩ := h.go R q
    exact ⟨a, xs, e, .inl s, g⟩
  | t =>
    obtain ⟨a, xs, rfl, s, g⟩ := q
    exact ⟨a, xs, rfl, .inr (Vb.sqd R.sh s), g⟩
  | q =>
    obtain ⟨a, xs, rfl, s, g⟩ := q
    exact ⟨a, xs, rfl, s.imp (R.sh _ _) (Vb.sqd R.sh), g⟩
  | c h =>
    obtain ⟨a, xs, rfl, s, g⟩ := h _ _ q
    exact ⟨a, xs, rfl, s.imp (R.sh _ _) (Vb.sqd R.sh), g⟩
theorem sqa_of {K : PySem.W.Frag} {H : Hp} {a : Addr} {xs : List V} (h : H a = some (.lst xs) ∨ SqT K H a xs) : Vb.SqA K H a xs := h.imp Vb.sq_of id
theorem r_len {r : Rs} {As : List Asn} (h : IsA K env r As) (q : k (.v (I As.length)) env) : RL c (Vb.rLenS K) [r] env k := fun S σ H xs Q R qs z => by
  obtain _ | ⟨x', _ | ⟨y', xs⟩⟩ := xs
  · exact qs.elim
  · obtain ⟨a, ys, rfl, s, g⟩ := h.go R qs.1.2
    have q' : Q (.int ys.length) H := by
      rw [← g.len]
      exact z S _ H _ env q (Same.refl S) R rfl
    exact s.elim (fun s => Vb.r_len (Vb.sq_of s) q') fun s => Vb.r_lenT s q'
  · exact qs.2.elim
theorem atI_some {α : Type} {xs : List α} {z : Int} {y : α} (h : atI xs z = some y) : ∃ j, ixN xs.length z = some j ∧ xs[j]? = some y := by
  unfold atI at h
  cases e : ixN xs.length z with
  | none => rw [e] at h; cases h
  | some j => rw [e] at h; exact ⟨j, rfl, h⟩
theorem All.atI {S : Hp} {As : List Asn} {vs : List V} {z : Int} {A : Asn} (h : All S As vs) (e : atI As z = some A) : ∃ v, L2.atI vs z = some v ∧ A.r S v := by
  obtain ⟨j, h1, h2⟩ := atI_some e
  obtain ⟨v, g1, g2⟩ := h.get h2
  refine ⟨v, ?_, g2⟩
  unfold L2.atI
  rw [← h.len, h1]
  exact g1
theorem r_ixL {r : Rs} {z : Int} {As : List Asn} {A : Asn} (h : IsL env r As) (e : atI As z = some A) (q : k (.v A) env) : R2 c (rIxL K) r (.v (I z)) env k := fun S σ H x y Q R _ _ qx qy w => by
  cases (show y = .int z from qy)
  obtain ⟨a, ys, rfl, s, g⟩ := h.go R qx
  obtain ⟨v, g1, g2⟩ := g.atI e
  exact Vb.r_ixL (Vb.sq_of s) g1 (w S v H _ env q (Same.refl S) R g2)
theorem r_ixT {z : Int} {As : List Asn} {A : Asn} (e : atI As z = some A) (q : k (.v A) env) : R2 c (rIxT K) (.v (Tu K As)) (.v (I z)) env k := fun S σ H x y Q R _ _ qx qy w => by
  cases (show y = .int z from qy)
  obtain ⟨a, ys, rfl, s, g⟩ := qx
  obtain ⟨v, g1, g2⟩ := g.atI e
  exact Vb.r_ixT (Vb.sqd R.sh s) g1 (w S v H _ env q (Same.refl S) R g2)
theorem r_ixA {r : Rs} {z : Int} {As : List Asn} {A : Asn} (h : IsA K env r As) (e : atI As z = some A) (q : k (.v A) env) : R2 c (rIx K) r (.v (I z)) env k := fun S σ H x y Q R _ _ qx qy w => by
  cases (show y = .int z from qy)
  obtain ⟨a, ys, rfl, s, g⟩ := h.go R qx
  obtain ⟨v, g1, g2⟩ := g.atI e
  exact Vb.r_ixA (sqa_of s) g1 (w S v H _ env q (Same.refl S) R g2)
/-- the values, without the heap's own -/
inductive IsV (env : Ev) : Rs → Asn → Prop
  | v {A : Asn} : IsV env (.v A) A
  | cp {i : Nat} {As : List Asn} : env[i]? = some (.o (Lc As)) → IsV env (.cp i) (L As)
end
end Pu
namespace Pu
open PySem PySem.Spec PyProof.Rows L2
section
variable {so : Option Addr} {c : Ct so} {K : PySem.W.Frag} {env : Ev} {k : Rs → Ev → Prop} {P : PEnds} {te ta tb tc tl : TE} {ts tu : TS} {t : TT}
/-- results as values: what one slot alone knows is shared from here on -/
def Fz : List Rs → Ev → (List Asn → Ev → Prop) → Prop
  | [], env, kk => kk [] env
  | .v A :: rs, env, kk => Fz rs env fun As e => kk (A :: As) e
  | .cp i :: rs, env, kk => (∃ As, env[i]? = some (.o (Lc As)) ∧ Fz rs (env.set i (.v (L As))) fun Bs e => kk (L As :: Bs) e) ∨ ∃ A, env[i]? = some (.v A) ∧ Fz rs env fun Bs e => kk (A :: Bs) e
  | .o _ :: _, _, _ => False
section
variable {kk : List Asn → Ev → Prop} {rs : List Rs}
theorem fz_nil (h : kk [] env) : Fz [] env kk := h
theorem fz_v {A : Asn} (h : Fz rs env fun As e => kk (A :: As) e) : Fz (.v A :: rs) env kk := h
theorem fz_cp {i : Nat} {As : List Asn} (e : env[i]? = some (.o (Lc As))) (h : Fz rs (env.set i (.v (L As))) fun Bs e => kk (L As :: Bs) e) : Fz (.cp i :: rs) env kk := .inl ⟨As, e, h⟩
theorem fz_cpv {i : Nat} {A : Asn} (e : env[i]? = some (.v A)) (h : Fz rs env fun Bs e => kk (A :: Bs) e) : Fz (.cp i :: rs) env kk := .inr ⟨A, e, h⟩
end
theorem Fz.go {S : Hp} {σ : L2.St} {H : Hp} : ∀ {rs : List Rs} {env : Ev} {kk : List Asn → Ev → Prop} {xs : List V}, Fz rs env kk → Rep c S env σ H → (∀ env0 : Ev, Oks c S H env0 σ rs xs) → ∀ S0, Same S0 S → ∃ S' As env', kk As env' ∧ Same S0 S' ∧ Rep c S' env' σ H ∧ All S' As xs
  | [], env, kk, xs, h, R, q, S0, e => by
    cases xs with
    | nil => exact ⟨S, [], env, h, e, R, trivial⟩
    | cons x xs => exact (q env).elim
  | .v A :: rs, env, kk, xs, h, R, q, S0, e => by
    cases xs with
    | nil => exact (q env).elim
    | cons x xs =>
      have hA := (q env).1.2
      obtain ⟨S', As, env', g1, g2, g3, g4⟩ := Fz.go (kk := fun As e => kk (A :: As) e) h R (fun e0 => (q e0).2) S (Same.refl S)
      exact ⟨S', A :: As, env', g1, e.trans g2, g3, A.up g2 hA, g4⟩
  | .o C :: rs, env, kk, xs, h, R, q, S0, e => h.elim
  | .cp i :: rs, env, kk, xs, h, R, q, S0, e => by
    cases xs with
    | nil => exact (q env).elim
    | cons x xs =>
      have hx : σ[i]? = some (some x) := (q env).1.2
      rcases h with ⟨As, e1, h⟩ | ⟨A, e1, h⟩
      · obtain ⟨a, S1, h1, h2, h3, h4⟩ := R.frz e1 (A := L As) lc_L
        rw [hx] at h1
        cases h1
        obtain ⟨S', Bs, env', g1, g2, g3, g4⟩ := Fz.go (kk := fun Bs e => kk (L As :: Bs) e) h h3 (fun e0 => Oks.up h2 (q e0).2) S1 (Same.refl S1)
        exact ⟨S', L As :: Bs, env', g1, e.trans (h2.trans g2), g3, (L As).up g2 h4, g4⟩
      · obtain ⟨y, h1, h2⟩ := R.at_ e1
        rw [hx] at h1
        cases h1
        obtain ⟨S', Bs, env', g1, g2, g3, g4⟩ := Fz.go (kk := fun Bs e => kk (A :: Bs) e) h R (fun e0 => (q e0).2) S (Same.refl S)
        exact ⟨S', A :: Bs, env', g1, e.trans g2, g3, A.up g2 h2, g4⟩
theorem Oks.any {S H : Hp} {σ : L2.St} {env' : Ev} : ∀ {rs : List Rs} {xs : List V}, Oks c S H env σ rs xs → Oks c S H env' σ rs xs := fun h => Oks.up (Same.refl S) h
-- displays
theorem e_tup {ts : TA} (h : EA c ts env fun rs env1 => Fz rs env1 fun As env2 => As.length ≤ 16777216 ∧ k (.v (Tu K As)) env2) : E c (tTup ts) env k := fun S σ H Q R z => by
  refine h S σ H _ R fun S1 xs H1 rs env1 g1 e1 R1 q1 => ?_
  obtain ⟨S2, As, env2, ⟨l, g2⟩, e2, R2, q2⟩ := g1.go R1 (fun _ => q1.any) S1 (Same.refl S1)
  refine ⟨by rw [← q2.len]; exact Vb.size_ok l, fun p np => ?_⟩
  have es := Vb.same_new (o := .tup xs) (R2.s_none np)
  exact z _ _ _ (.v (Tu K As)) env2 g2 (e1.trans (e2.trans es)) (R2.new np) ⟨p, xs, rfl, upd_same, q2.up es⟩
theorem e_lst {ts : TA} (h : EA c ts env fun rs env1 => Fz rs env1 fun As env2 => As.length ≤ 16777216 ∧ k (.o (Lc As)) env2) : E c (tLst ts) env k := fun S σ H Q R z => by
  refine h S σ H _ R fun S1 xs H1 rs env1 g1 e1 R1 q1 => ?_
  obtain ⟨S2, As, env2, ⟨l, g2⟩, e2, R2, q2⟩ := g1.go R1 (fun _ => q1.any) S1 (Same.refl S1)
  refine ⟨by rw [← q2.len]; exact Vb.size_ok l, fun p np => ?_⟩
  obtain ⟨R3, q3⟩ := R2.newO (p := p) (ob := .lst xs) (C := Lc As) np ⟨xs, rfl, q2⟩
  exact z _ _ _ (.o (Lc As)) env2 g2 (e1.trans e2) R3 q3
/-- a new list of what is there -/
theorem newL {S : Hp} {σ : L2.St} {H : Hp} {Q : VK} {Bs : List Asn} {ys : List V} {S0 : Hp} (R : Rep c S env σ H) (g : All S Bs ys) (q : k (.o (Lc Bs)) env) (e : Same S0 S) (z : ∀ S' y H' r' env', k r' env' → Same S0 S' → Rep c S' env' σ H' → ROk c S' H' env' σ r' y → Q y H') : ∀ p, H p = none → Q (.ref p) (upd H p (.lst ys)) := fun p np => by
  obtain ⟨R3, q3⟩ := R.newO (p := p) (ob := .lst ys) (C := Lc Bs) np ⟨ys, rfl, g⟩
  exact z _ _ _ (.o (Lc Bs)) env q e R3 q3
theorem r_list {r : Rs} {As : List Asn} (h : IsA K env r As) (q : k (.o (Lc As)) env) : RL c (Vb.rList K) [r] env k := fun S σ H xs Q R qs z => by
  obtain _ | ⟨x', _ | ⟨y', xs⟩⟩ := xs
  · exact qs.elim
  · obtain ⟨a, ys, rfl, s, g⟩ := h.go R qs.1.2
    exact ⟨a, ys, rfl, sqa_of s, newL R g q (Same.refl S) z⟩
  · exact qs.2.elim
theorem r_tuple {r : Rs} {As : List Asn} (h : IsA K env r As) (q : k (.v (Tu K As)) env) : RL c (Vb.rTup K) [r] env k := fun S σ H xs Q R qs z => by
  obtain _ | ⟨x', _ | ⟨y', xs⟩⟩ := xs
  · exact qs.elim
  · have tup : ∀ {a ys}, S a = some (.tup ys) → All S As ys → Q (.ref a) H := fun {a ys} s g => z S _ H (.v (Tu K As)) env q (Same.refl S) R ⟨a, ys, rfl, s, g⟩
    have lst : ∀ {a ys}, H a = some (.lst ys) → All S As ys → Vb.rTup K [.ref a] H Q := fun {a ys} s g => Vb.r_tupL (Vb.sq_of s) fun p np => by
      have es := Vb.same_new (o := .tup ys) (R.s_none np)
      exact z _ _ _ (.v (Tu K As)) env q es (R.new np) ⟨p, ys, rfl, upd_same, g.up es⟩
    cases h with
    | l h =>
      obtain ⟨a, ys, rfl, s, g⟩ := h.go R qs.1.2
      exact lst s g
    | t =>
      obtain ⟨a, ys, rfl, s, g⟩ := qs.1.2
      exact Vb.r_tupT (Vb.sqd R.sh s) (tup s g)
    | c h =>
      obtain ⟨a, ys, rfl, s, g⟩ := h _ _ qs.1.2
      rcases s with s | s
      · exact lst (R.sh _ _ s) g
      · exact Vb.r_tupT (Vb.sqd R.sh s) (tup s g)
    | q =>
      obtain ⟨a, ys, rfl, s, g⟩ := qs.1.2
      rcases s with s | s
      · exact lst (R.sh _ _ s) g
      · exact Vb.r_tupT (Vb.sqd R.sh s) (tup s g)
  · exact qs.2.elim
-- slices and the like
def OI {so : Option Addr} (c : Ct so) (t : TO) (env : Ev) (k : Option Int → Ev → Prop) : Prop := ∀ S σ H Q, Rep c S env σ H → (∀ S' z H' env', k z env' → Same S S' → Rep c S' env' σ H' → Q z H') → t σ H Q
theorem o_none {ko : Option Int → Ev → Prop} (h : ko none env) : OI c tNoPart env ko := fun S σ H Q R z => z S none H env h (Same.refl S) R
theorem o_some {ko : Option Int → Ev → Prop} (h : E c te env fun r env1 => ∃ n, r = .v (I n) ∧ ko (some n) env1) : OI c (tPart te) env ko := fun S σ H Q R z => by
  refine h S σ H _ R fun S1 x H1 r env1 g1 e1 R1 q1 => ?_
  obtain ⟨n, rfl, g⟩ := g1
  exact ⟨n, q1, z S1 _ H1 env1 g e1 R1⟩
theorem q_i {n : Int} {Pn : Int → Prop} (q : Pn n) : ∃ m, Rs.v (I n) = .v (I m) ∧ Pn m := ⟨n, rfl, q⟩
def RS {so : Option Addr} (c : Ct so) (f : V → Option Int → Option Int → Hp → VK → Prop) (r : Rs) (lo hi : Option Int) (env : Ev) (k : Rs → Ev → Prop) : Prop := ∀ S σ H x Q, Rep c S env σ H → Hd r → ROk c S H env σ r x → (∀ S' y H' r' env', k r' env' → Same S S' → Rep c S' env' σ H' → ROk c S' H' env' σ r' y → Q y H') → f x lo hi H Q
theorem e_sl {f : V → Option Int → Option Int → Hp → VK → Prop} {tlo thi : TO} (h : E c te env fun r env1 => Z r fun r1 => OI c tlo env1 fun lo env2 => OI c thi env2 fun hi env3 => RS c f r1 lo hi env3 k) : E c (tSl f te tlo thi) env k := fun S σ H Q R z => by
  refine h S σ H _ R fun S1 x H1 r env1 g1 e1 R1 q1 => ?_
  obtain ⟨r1, S2, g2, d2, e2, R2, q2⟩ := g1.go R1 q1
  refine g2 S2 σ H1 _ R2 fun S3 lo H3 env3 g3 e3 R3 => ?_
  refine g3 S3 σ H3 _ R3 fun S4 hi H4 env4 g4 e4 R4 => ?_
  exact g4 S4 σ H4 x Q R4 d2 (q2.up d2 (e3.trans e4)) fun S5 y H5 r5 env5 g5 e5 R5 q5 => z S5 y H5 r5 env5 g5 (e1.trans (e2.trans (e3.trans (e4.trans e5)))) R5 q5
/-- a slice's items -/
def cutA {α : Type} (xs : List α) (lo hi : Option Int) : List α := (xs.drop (HT.sIx xs.length 0 lo)).take (HT.sIx xs.length xs.length hi - HT.sIx xs.length 0 lo)
theorem All.cut {S : Hp} {As : List Asn} {vs : List V} (h : All S As vs) (lo hi : Option Int) : All S (cutA As lo hi) (cutV vs lo hi) := by
  unfold cutA cutV
  rw [h.len]
  exact (h.drop _).take _
theorem cutA_map {α β : Type} (f : α → β) (xs : List α) (lo hi : Option Int) : cutA (xs.map f) lo hi = (cutA xs lo hi).map f := by
  unfold cutA
  rw [List.length_map, List.map_take, List.map_drop]
theorem r_slL {r : Rs} {As : List Asn} {lo hi : Option Int} (h : IsL env r As) (q : k (.o (Lc (cutA As lo hi))) env) : RS c (rSlL K) r lo hi env k := fun S σ H x Q R d qx z => by
  obtain ⟨a, ys, rfl, s, g⟩ := h.go R qx
  exact Vb.r_slL (Vb.sq_of s) (newL R (g.cut lo hi) q (Same.refl S) z)
theorem e_revL (h : E c te env fun r env1 => Z r fun r1 => ∃ As, IsL env1 r1 As ∧ k (.o (Lc As.reverse)) env1) : E c (tRevL K te) env k := fun S σ H Q R z => by
  refine h S σ H _ R fun S1 x H1 r env1 g1 e1 R1 q1 => ?_
  obtain ⟨r1, S2, ⟨As, hl, g2⟩, d2, e2, R2, q2⟩ := g1.go R1 q1
  obtain ⟨a, ys, rfl, s, g⟩ := hl.go R2 q2
  exact ⟨a, ys, rfl, Vb.sq_of s, newL R2 g.rev g2 (e1.trans e2) z⟩
/-- n times these -/
def repA {α : Type} (n : Nat) (xs : List α) : List α := (List.replicate n xs).flatten
theorem All.rep {S : Hp} {As : List Asn} {vs : List V} (h : All S As vs) : ∀ n : Nat, All S (repA n As) (List.replicate n vs).flatten
  | 0 => trivial
  | n + 1 => by
    show All S (List.replicate (n + 1) As).flatten _
    rw [List.replicate_succ, List.replicate_succ, List.flatten_cons, List.flatten_cons]
    exact h.app (All.rep h n)
theorem repA_map {α β : Type} (f : α → β) (n : Nat) (xs : List α) : repA n (xs.map f) = (repA n xs).map f := by
  unfold repA
  rw [List.map_flatten, List.map_replicate]
theorem rep_one {α : Type} (n : Nat) (x : α) : repA n [x] = List.replicate n x := by
  unfold repA
  induction n with
  | zero => rfl
  | succ n ih => rw [List.replicate_succ, List.flatten_cons, ih]; rfl
theorem rep_len {α : Type} (n : Nat) (xs : List α) : (repA n xs).length = n * xs.length := by
  unfold repA
  induction n with
  | zero => simp
  | succ n ih => rw [List.replicate_succ, List.flatten_cons, List.length_append, ih, Nat.add_mul]; omega
end
end Pu
namespace Pu
open PySem PySem.Spec PyProof.Rows L2
section
variable {so : Option Addr} {c : Ct so} {K : PySem.W.Frag} {env : Ev} {k : Rs → Ev → Prop} {nx : Ev → Prop} {rt : Rs → Prop} {bk ct : Ev → Prop} {te ta tb tc tl : TE} {ts tu : TS} {t : TT}
theorem r_rep {r : Rs} {As : List Asn} {n : Int} (h : IsL env r As) (b : -1000000 < n ∧ n < 1000000) (l : As.length * n.toNat ≤ 16777216) (q : k (.o (Lc (repA n.toNat As))) env) : R2 c rRep r (.v (I n)) env k := fun S σ H x y Q R _ _ qx qy z => by
  cases (show y = .int n from qy)
  obtain ⟨a, ys, rfl, s, g⟩ := h.go R qx
  exact Vb.r_repL s b (by rw [← g.len]; exact Vb.size_ok l) (newL R (g.rep _) q (Same.refl S) z)
theorem r_cat {r s : Rs} {As Bs : List Asn} (h1 : IsL env r As) (h2 : IsL env s Bs) (l : As.length + Bs.length ≤ 16777216) (q : k (.o (Lc (As ++ Bs))) env) : R2 c rCat r s env k := fun S σ H x y Q R _ _ qx qy z => by
  obtain ⟨a, xs, rfl, s1, g1⟩ := h1.go R qx
  obtain ⟨b, ys, rfl, s2, g2⟩ := h2.go R qy
  exact Vb.r_cat s1 s2 (by rw [← g1.len, ← g2.len]; exact Vb.size_ok l) (newL R (g1.app g2) q (Same.refl S) z)
theorem atI_nat' {α : Type} {xs : List α} {j : Nat} {y : α} (h : xs[j]? = some y) : atI xs (j : Int) = some y := L2.atI_nat h
theorem at_ {α : Type} {xs : List α} {z : Int} {y : α} (j : Nat) (e : z = (j : Int)) (h : xs[j]? = some y) : atI xs z = some y := by
  rw [e]
  exact L2.atI_nat h
theorem at_m {α : Type} {f : α → Asn} {xs : List α} {z : Int} {y : α} (h : atI xs z = some y) : atI (xs.map f) z = some (f y) := by
  obtain ⟨j, h1, h2⟩ := atI_some h
  unfold atI
  rw [List.length_map, h1]
  show (xs.map f)[j]? = _
  rw [List.getElem?_map, h2]
  rfl
/-- x.append(e), x one's own -/
theorem e_append {i : Nat} {As0 : List Asn} (h0 : env[i]? = some (.o (Lc As0))) (h : E c te env fun r env1 => Z r fun r1 => Fz [r1] env1 fun Bs env2 => ∃ As A, Bs = [A] ∧ env2[i]? = some (.o (Lc As)) ∧ As.length < 16777216 ∧ k (.v No) (env2.set i (.o (Lc (As ++ [A]))))) : E c (tBM K "list" rAppend (tVar i) (tCons te tNil)) env k := fun S σ H Q R z => by
  obtain ⟨a, ob, _, h1, h2, xs, rfl, g⟩ := R.own h0
  refine ⟨_, h1, Vb.tyL h2, ?_⟩
  refine h S σ H _ R fun S1 x H1 r env1 g1 e1 R1 q1 => ?_
  obtain ⟨r1, S2, g2, d2, e2, R2, q2⟩ := g1.go R1 q1
  obtain ⟨S3, Bs, env2, ⟨As, A, rfl, h3, l, g3⟩, e3, R3, q3⟩ := g2.go (xs := [x]) R2 (fun _ => ⟨⟨d2, q2.up d2 (Same.refl S2)⟩, trivial⟩) S2 (Same.refl S2)
  obtain ⟨a', ob', _, h4, h5, ys, rfl, g4⟩ := R3.own h3
  rw [h1] at h4
  cases h4
  refine Vb.r_app h5 (by rw [← g4.len]; exact Vb.size_lt l) ?_
  exact z S3 _ _ (.v No) _ g3 (e1.trans (e2.trans e3)) (R3.mut h3 h1 (C' := Lc (As ++ [A])) ⟨_, rfl, g4.app q3⟩) rfl
theorem e_reverse {i : Nat} {As : List Asn} (h0 : env[i]? = some (.o (Lc As))) (q : k (.v No) (env.set i (.o (Lc As.reverse)))) : E c (tBM0 K "list" rReverse (tVar i)) env k := fun S σ H Q R z => by
  obtain ⟨a, ob, _, h1, h2, xs, rfl, g⟩ := R.own h0
  exact ⟨_, h1, Vb.tyL h2, Vb.r_rev h2 (z S _ _ (.v No) _ q (Same.refl S) (R.mut h0 h1 (C' := Lc As.reverse) ⟨_, rfl, g.rev⟩) rfl)⟩
/-! ### statements -/
theorem EOk.mono {P : PEnds} {S S' : Hp} {d : L2.Ends} (h : EOk c S P d) (e : Same S S') : EOk c S' P d := ⟨fun T v s H p q => h.nx T v s H p (e.trans q), fun T v s H r x p q => h.rt T v s H r x p (e.trans q), fun T v s H p q => h.bk T v s H p (e.trans q), fun T v s H p q => h.ct T v s H p (e.trans q)⟩
theorem w_seq (h : W c ts env ⟨fun env1 => W c tu env1 ⟨nx, rt, bk, ct⟩, rt, bk, ct⟩) : W c (tSeq ts tu) env ⟨nx, rt, bk, ct⟩ := fun S σ H d R e => h S σ H _ R ⟨fun S' env1 σ1 H1 p q R1 => p S' σ1 H1 d R1 (e.mono q), e.rt, e.bk, e.ct⟩
theorem w_cut (Mid : Ev → Prop) (h : W c ts env ⟨Mid, rt, bk, ct⟩) (g : ∀ env1, Mid env1 → W c tu env1 ⟨nx, rt, bk, ct⟩) : W c (Evl.tCut ts tu) env ⟨nx, rt, bk, ct⟩ := fun S σ H d R e => by
  refine ⟨fun σ1 H1 => ∃ S1 env1, Mid env1 ∧ Same S S1 ∧ Rep c S1 env1 σ1 H1, h S σ H _ R ⟨fun S' env1 σ1 H1 p q R1 => ⟨S', env1, p, q, R1⟩, e.rt, e.bk, e.ct⟩, fun σ1 H1 z => ?_⟩
  obtain ⟨S1, env1, p, q, R1⟩ := z
  exact g env1 p S1 σ1 H1 d R1 (e.mono q)
/-- slot i is to be shared as soon as it is set (nobody changes it) -/
structure Frz (i : Nat) : Prop where mk ::
def SetR (r : Rs) (i : Nat) (env : Ev) (nx : Ev → Prop) : Prop :=
  match r with
  | .v A => ∃ B, Imp A B ∧ nx (env.set i (.v B))
  | .o C => nx (env.set i (.o C)) ∨ ∃ As, C = Lc As ∧ nx (env.set i (.v (L As)))
  | .cp j => ∃ As, env[j]? = some (.o (Lc As)) ∧ nx ((env.set j (.v (L As))).set i (.v (L As)))
theorem s_v {A : Asn} {i : Nat} {nx : Ev → Prop} (h : nx (env.set i (.v A))) : SetR (.v A) i env nx := ⟨A, Imp.rfl, h⟩
theorem s_w {A B : Asn} {i : Nat} {nx : Ev → Prop} (q : Imp A B) (h : nx (env.set i (.v B))) : SetR (.v A) i env nx := ⟨B, q, h⟩
theorem s_o {C : Cn} {i : Nat} {nx : Ev → Prop} (h : nx (env.set i (.o C))) : SetR (.o C) i env nx := .inl h
theorem s_oz {As : List Asn} {i : Nat} {nx : Ev → Prop} (f : Frz i) (h : nx (env.set i (.v (L As)))) : SetR (.o (Lc As)) i env nx := .inr ⟨As, rfl, h⟩
theorem s_cp {i j : Nat} {As : List Asn} {nx : Ev → Prop} (e : env[j]? = some (.o (Lc As))) (h : nx ((env.set j (.v (L As))).set i (.v (L As)))) : SetR (.cp j) i env nx := ⟨As, e, h⟩
theorem SetR.go {r : Rs} {i : Nat} {nx : Ev → Prop} {S H : Hp} {σ : L2.St} {x : V} (h : SetR r i env nx) (R : Rep c S env σ H) (q : ROk c S H env σ r x) : ∃ S' env', nx env' ∧ Same S S' ∧ Rep c S' env' (σ.set i (some x)) H := by
  cases r with
  | v A => obtain ⟨B, g, h⟩ := h; exact ⟨S, _, h, Same.refl S, R.setV i (g _ _ q)⟩
  | o C =>
    rcases h with h | ⟨As, rfl, h⟩
    · exact ⟨S, _, h, Same.refl S, R.setO i q⟩
    · obtain ⟨S', e, R', g⟩ := q.share R (A := L As) lc_L
      exact ⟨S', _, h, e, R'.setV i g⟩
  | cp j =>
    obtain ⟨As, e, h⟩ := h
    obtain ⟨a, S1, h1, h2, h3, h4⟩ := R.frz e (A := L As) lc_L
    have q : σ[j]? = some (some x) := q
    rw [h1] at q
    cases q
    exact ⟨S1, _, h, h2, h3.setV i h4⟩
theorem w_set {i : Nat} (h : E c te env fun r env1 => SetR r i env1 nx) : W c (tAsg te (gName i)) env ⟨nx, rt, bk, ct⟩ := fun S σ H d R e => by
  refine h S σ H _ R fun S1 x H1 r env1 g1 e1 R1 q1 => ?_
  obtain ⟨S2, env2, g2, e2, R2⟩ := g1.go R1 q1
  exact e.nx S2 env2 _ H1 g2 (e1.trans e2) R2
def RetR (r : Rs) (env : Ev) (rt : Rs → Prop) : Prop :=
  match r with
  | .v A => ∃ B, Imp A B ∧ rt (.v B)
  | .o C => rt (.o C) ∨ ∃ As B, C = Lc As ∧ Imp (L As) B ∧ rt (.v B)
  | .cp i => ∃ C, env[i]? = some (.o C) ∧ rt (.o C)
theorem ret_v {A : Asn} {rt : Rs → Prop} (h : rt (.v A)) : RetR (.v A) env rt := ⟨A, Imp.rfl, h⟩
theorem ret_w {A B : Asn} {rt : Rs → Prop} (q : Imp A B) (h : rt (.v B)) : RetR (.v A) env rt := ⟨B, q, h⟩
theorem ret_o {C : Cn} {rt : Rs → Prop} (h : rt (.o C)) : RetR (.o C) env rt := .inl h
/-- a new list is handed back as something that anybody may know -/
theorem ret_s {As : List Asn} {B : Asn} {rt : Rs → Prop} (i : Imp (L As) B) (h : rt (.v B)) : RetR (.o (Lc As)) env rt := .inr ⟨As, B, rfl, i, h⟩
theorem ret_cp {i : Nat} {C : Cn} {rt : Rs → Prop} (e : env[i]? = some (.o C)) (h : rt (.o C)) : RetR (.cp i) env rt := ⟨C, e, h⟩
theorem RetR.go {r : Rs} {rt : Rs → Prop} {S H : Hp} {σ : L2.St} {x : V} (h : RetR r env rt) (R : Rep c S env σ H) (q : ROk c S H env σ r x) : ∃ r' S', rt r' ∧ Same S S' ∧ Rep c S' env σ H ∧ RtOk c c.H0 S' H r' x := by
  cases r with
  | v A => obtain ⟨B, g, h⟩ := h; exact ⟨_, S, h, Same.refl S, R, g _ _ q⟩
  | o C =>
    rcases h with h | ⟨As, B, rfl, i, h⟩
    · obtain ⟨a, ob, e, h1, h2, h3, h4, h5, _⟩ := q
      exact ⟨_, S, h, Same.refl S, R, a, ob, e, h1, h2, h3, h4, h5⟩
    · obtain ⟨S', e, R', g⟩ := q.share R (A := L As) lc_L
      exact ⟨_, S', h, e, R', i _ _ g⟩
  | cp i =>
    obtain ⟨C, e, h⟩ := h
    obtain ⟨a, ob, ow, h1, h2, h3⟩ := R.own e
    have q : σ[i]? = some (some x) := q
    rw [h1] at q
    cases q
    exact ⟨_, S, h, Same.refl S, R, a, ob, rfl, h2, h3, (R.fr i a ow).2, (R.fr i a ow).1, R.own_g ow⟩
theorem w_ret (h : E c te env fun r env1 => RetR r env1 rt) : W c (tRet te) env ⟨nx, rt, bk, ct⟩ := fun S σ H d R e => by
  refine h S σ H _ R fun S1 x H1 r env1 g1 e1 R1 q1 => ?_
  obtain ⟨r', S2, g2, e2, R2, q2⟩ := g1.go R1 q1
  exact e.rt S2 env1 _ H1 r' x g2 (e1.trans e2) R2 q2
theorem w_retN (h : rt (.v No)) : W c tRetN env ⟨nx, rt, bk, ct⟩ := fun S σ H d R e => e.rt S env σ H _ .non h (Same.refl S) R rfl
theorem w_if (h : T c t env fun b env1 => if b = true then W c ts env1 ⟨nx, rt, bk, ct⟩ else W c tu env1 ⟨nx, rt, bk, ct⟩) : W c (tIfS t ts tu) env ⟨nx, rt, bk, ct⟩ := fun S σ H d R e => by
  refine h S σ H _ R fun S1 b H1 env1 g1 e1 R1 => ?_
  cases b with
  | true => rw [if_pos rfl] at g1 ⊢; exact g1 S1 σ H1 d R1 (e.mono e1)
  | false => rw [if_neg (by decide)] at g1 ⊢; exact g1 S1 σ H1 d R1 (e.mono e1)
theorem w_drop (h : E c te env fun _ env1 => nx env1) : W c (tDrop te) env ⟨nx, rt, bk, ct⟩ := fun S σ H d R e => h S σ H _ R fun S1 x H1 r env1 g1 e1 R1 _ => e.nx S1 env1 σ H1 g1 e1 R1
theorem w_nxt (h : nx env) : W c tNext env ⟨nx, rt, bk, ct⟩ := fun S σ H d R e => e.nx S env σ H h (Same.refl S) R
theorem w_brk (h : bk env) : W c tBreak env ⟨nx, rt, bk, ct⟩ := fun S σ H d R e => e.bk S env σ H h (Same.refl S) R
theorem w_cnt (h : ct env) : W c tCont env ⟨nx, rt, bk, ct⟩ := fun S σ H d R e => e.ct S env σ H h (Same.refl S) R
/-- something may be forgotten, or said otherwise -/
theorem W.frz {i : Nat} {As : List Asn} (e : env[i]? = some (.o (Lc As))) (h : W c ts (env.set i (.v (L As))) ⟨nx, rt, bk, ct⟩) : W c ts env ⟨nx, rt, bk, ct⟩ := fun S σ H d R z => by
  obtain ⟨a, S1, h1, h2, h3, h4⟩ := R.frz e (A := L As) lc_L
  exact h S1 σ H d h3 (z.mono h2)
theorem W.wk {i : Nat} {A B : Asn} (e : env[i]? = some (.v A)) (q : ∀ S v, A.r S v → B.r S v) (h : W c ts (env.set i (.v B)) ⟨nx, rt, bk, ct⟩) : W c ts env ⟨nx, rt, bk, ct⟩ := fun S σ H d R z => by
  obtain ⟨x, h1, h2⟩ := R.at_ e
  have := R.setV i (q _ _ h2)
  rw [set_self h1] at this
  exact h S σ H d this z
theorem W.un {i : Nat} {s : Sl} (e : env[i]? = some s) (h : W c ts (env.set i .un) ⟨nx, rt, bk, ct⟩) : W c ts env ⟨nx, rt, bk, ct⟩ := fun S σ H d R z => h S σ H d (R.drop e) z
/-- x[i] = e, x one's own -/
theorem w_sub {i : Nat} {ti : TE} {As0 : List Asn} (h : E c te env fun r env1 => Z r fun r1 => env1[i]? = some (.o (Lc As0)) ∧ E c ti env1 fun s env2 => ∃ z, s = .v (I z) ∧ Fz [r1] env2 fun Bs env3 => ∃ As A j, Bs = [A] ∧ env3[i]? = some (.o (Lc As)) ∧ ixN As.length z = some j ∧ nx (env3.set i (.o (Lc (As.set j A))))) : W c (tAsg te (gSub (tVar i) ti rSetL)) env ⟨nx, rt, bk, ct⟩ := fun S σ H d R e => by
  refine h S σ H _ R fun S1 x H1 r env1 g1 e1 R1 q1 => ?_
  obtain ⟨r1, S2, ⟨h0, g2⟩, d2, e2, R2, q2⟩ := g1.go R1 q1
  obtain ⟨a, ob, _, h1, h2, xs, rfl, g⟩ := R2.own h0
  refine ⟨_, h1, ?_⟩
  refine g2 S2 σ H1 _ R2 fun S3 y H3 s env3 g3 e3 R3 q3 => ?_
  obtain ⟨z, rfl, g4⟩ := g3
  cases (show y = .int z from q3)
  obtain ⟨S4, Bs, env4, ⟨As, A, j, rfl, h3, hj, g5⟩, e4, R4, q4⟩ := g4.go (xs := [x]) R3 (fun _ => ⟨⟨d2, (q2.up d2 e3 : ROk c S3 H3 env3 σ r1 x).up d2 (Same.refl S3)⟩, trivial⟩) S3 (Same.refl S3)
  obtain ⟨a', ob', _, h4, h5, ys, rfl, g6⟩ := R4.own h3
  rw [h1] at h4
  cases h4
  refine Vb.r_setL h5 (k := j) (by rw [← g6.len]; exact hj) ?_
  exact e.nx S4 _ _ _ g5 (e1.trans (e2.trans (e3.trans e4))) (R4.mut h3 h1 (C' := Lc (As.set j A)) ⟨_, rfl, g6.set j q4.1⟩)
/-! ### loops -/
theorem g_name {i : Nat} {r : Rs} {kg : Ev → Prop} (h : SetR r i env kg) : G c (gName i) r env kg := fun S σ H x Q R q z => by
  obtain ⟨S', env', g, e, R'⟩ := h.go R q
  exact z S' _ H env' g e R'
theorem g_two {i j : Nat} {A B : Asn} {kg : Ev → Prop} (h : kg ((env.set i (.v A)).set j (.v B))) : G c (gTup K 2 (gCons (gName i) (gCons (gName j) gNil))) (.v (Tu K [A, B])) env kg := fun S σ H x Q R q z => by
  obtain ⟨a, xs, rfl, s, g⟩ := q
  obtain _ | ⟨x, _ | ⟨y, _ | ⟨w, xs⟩⟩⟩ := xs
  · exact g.elim
  · exact g.2.elim
  · exact Vb.r_gT2 (Vb.sqd R.sh s) (z S _ H _ h (Same.refl S) ((R.setV i g.1).setV j g.2.1))
  · exact g.2.2.elim
/-- a loop's invariant, by the turn -/
def LoopN {so : Option Addr} (c : Ct so) (n : Nat) (it : Nat → Asn) (g : TG) (tb : TS) (env : Ev) (P : PEnds) : Prop := ∃ Inv : Nat → Ev → Prop, Inv 0 env ∧ (∀ i env, i < n → Inv i env → G c g (.v (it i)) env fun env1 => W c tb env1 ⟨Inv (i + 1), P.rt, P.nx, Inv (i + 1)⟩) ∧ ∀ env, Inv n env → P.nx env
theorem lpN {n : Nat} {it : Nat → Asn} {g : TG} (Inv : Nat → Ev → Prop) (h0 : Inv 0 env) (hs : ∀ i env, i < n → Inv i env → G c g (.v (it i)) env fun env1 => W c ts env1 ⟨Inv (i + 1), rt, nx, Inv (i + 1)⟩) (hd : ∀ env, Inv n env → nx env) : LoopN c n it g ts env ⟨nx, rt, bk, ct⟩ := ⟨Inv, h0, hs, hd⟩
def LoopL {so : Option Addr} (c : Ct so) (As : List Asn) (g : TG) (tb : TS) (env : Ev) (P : PEnds) : Prop := ∃ Inv : Nat → Ev → Prop, Inv 0 env ∧ (∀ i A env, As[i]? = some A → Inv i env → G c g (.v A) env fun env1 => W c tb env1 ⟨Inv (i + 1), P.rt, P.nx, Inv (i + 1)⟩) ∧ ∀ env, Inv As.length env → P.nx env
theorem lpL {As : List Asn} {g : TG} (Inv : Nat → Ev → Prop) (h0 : Inv 0 env) (hs : ∀ i A env, As[i]? = some A → Inv i env → G c g (.v A) env fun env1 => W c ts env1 ⟨Inv (i + 1), rt, nx, Inv (i + 1)⟩) (hd : ∀ env, Inv As.length env → nx env) : LoopL c As g ts env ⟨nx, rt, bk, ct⟩ := ⟨Inv, h0, hs, hd⟩
/-- over what f makes of these -/
theorem lpM {α : Type} {f : α → Asn} {xs : List α} {g : TG} (Inv : Nat → Ev → Prop) (h0 : Inv 0 env) (hs : ∀ i x env, xs[i]? = some x → Inv i env → G c g (.v (f x)) env fun env1 => W c ts env1 ⟨Inv (i + 1), rt, nx, Inv (i + 1)⟩) (hd : ∀ env, Inv xs.length env → nx env) : LoopL c (xs.map f) g ts env ⟨nx, rt, bk, ct⟩ := ⟨Inv, h0, fun i A env h q => by
  rw [List.getElem?_map] at h
  cases e : xs[i]? with
  | none => rw [e] at h; cases h
  | some x => rw [e] at h; cases h; exact hs i x env e q, fun env q => hd env (by rw [List.length_map] at q; exact q)⟩
theorem forW_range {n : Nat} {lo : Int} {g : TG} {S0 S : Hp} {σ : L2.St} {H : Hp} {d : L2.Ends} (h : LoopN c n (fun i => I (lo + i)) g ts env ⟨nx, rt, bk, ct⟩) (R : Rep c S env σ H) (e : EOk c S ⟨nx, rt, bk, ct⟩ d) : Vb.ForW (Itr lo n) g ts d.nx d.rt σ H := by
  obtain ⟨Inv, h0, hs, hd⟩ := h
  refine Vb.lp_range (fun i σ' H' => ∃ S' env', Inv i env' ∧ Same S S' ∧ Rep c S' env' σ' H') ⟨S, env, h0, Same.refl S, R⟩ ?_ ?_
  · rintro i σ' H' hi ⟨S', env', hI, e', R'⟩
    refine hs i env' hi hI S' σ' H' _ _ R' rfl fun S2 σ2 H2 env2 g2 e2 R2 => ?_
    exact g2 S2 σ2 H2 _ R2 ⟨fun S3 env3 σ3 H3 p q R3 => ⟨S3, env3, p, e'.trans (e2.trans q), R3⟩, (e.mono (e'.trans e2)).rt, (e.mono (e'.trans e2)).nx, fun S3 env3 σ3 H3 p q R3 => ⟨S3, env3, p, e'.trans (e2.trans q), R3⟩⟩
  · rintro σ' H' ⟨S', env', hI, e', R'⟩
    exact e.nx S' env' σ' H' (hd _ hI) e' R'
theorem w_for1 {g : TG} {as : TA} (h : EA c as env fun rs env1 => ∃ n, rs = [.v (I n)] ∧ (-(2 ^ 62) ≤ n ∧ n < 2 ^ 62) ∧ LoopN c n.toNat (fun i => I (0 + i)) g ts env1 ⟨nx, rt, bk, ct⟩) : W c (tFor (iRng1 as) g ts) env ⟨nx, rt, bk, ct⟩ := fun S σ H d R e => by
  cases d with
  | mk nx rt bk ct =>
  refine Vb.r_for (h S σ H _ R fun S1 xs H1 rs env1 g1 e1 R1 q1 => ?_)
  obtain ⟨n, rfl, hn, g2⟩ := g1
  obtain _ | ⟨x, _ | ⟨y, xs⟩⟩ := xs
  · exact q1.elim
  · cases (show x = .int n from q1.1.2)
    exact ⟨n, rfl, hn.1, hn.2, forW_range (S0 := S) g2 R1 (e.mono e1)⟩
  · exact q1.2.elim
theorem w_for2 {g : TG} {as : TA} (h : EA c as env fun rs env1 => ∃ lo hi, rs = [.v (I lo), .v (I hi)] ∧ ((-(2 ^ 62) ≤ lo ∧ lo < 2 ^ 62 ∧ -(2 ^ 62) ≤ hi ∧ hi < 2 ^ 62) ∨ hi ≤ lo) ∧ LoopN c (hi - lo).toNat (fun i => I (lo + i)) g ts env1 ⟨nx, rt, bk, ct⟩) : W c (tFor (Vb.iRngW as) g ts) env ⟨nx, rt, bk, ct⟩ := fun S σ H d R e => by
  cases d with
  | mk nx rt bk ct =>
  refine Vb.r_for (Vb.r_rngW (h S σ H _ R fun S1 xs H1 rs env1 g1 e1 R1 q1 => ?_))
  obtain ⟨lo, hi, rfl, hn, g2⟩ := g1
  obtain _ | ⟨x, _ | ⟨y, _ | ⟨w, xs⟩⟩⟩ := xs
  · exact q1.elim
  · exact q1.2.elim
  · cases (show x = .int lo from q1.1.2)
    cases (show y = .int hi from q1.2.1.2)
    exact Vb.f_rngW hn (forW_range (S0 := S) g2 R1 (e.mono e1))
  · exact q1.2.2.elim
theorem w_forL {g : TG} (h : E c tl env fun r env1 => Z r fun r1 => Fz [r1] env1 fun Bs env2 => ∃ As, Bs = [L As] ∧ LoopL c As g ts env2 ⟨nx, rt, bk, ct⟩) : W c (tFor (iList K tl) g ts) env ⟨nx, rt, bk, ct⟩ := fun S σ H d R e => by
  cases d with
  | mk nx rt bk ct =>
  refine Vb.r_for (h S σ H _ R fun S1 x H1 r env1 g1 e1 R1 q1 => ?_)
  obtain ⟨r1, S2, g2, d2, e2, R2, q2⟩ := g1.go R1 q1
  obtain ⟨S3, Bs, env3, ⟨As, rfl, Inv, h0, hs, hd⟩, e3, R3, q3⟩ := g2.go (xs := [x]) R2 (fun _ => ⟨⟨d2, q2.up d2 (Same.refl S2)⟩, trivial⟩) S2 (Same.refl S2)
  obtain ⟨⟨a, xs, rfl, s, g⟩, _⟩ := q3
  have ee := e1.trans (e2.trans e3)
  refine ⟨a, rfl, ⟨xs, Vb.sq_of (R3.sh _ _ s)⟩, ?_⟩
  refine Vb.lp_list (xs := xs) (fun i σ' H' => ∃ S' env', Inv i env' ∧ Same S3 S' ∧ Rep c S' env' σ' H') ⟨S3, env3, h0, Same.refl S3, R3⟩ (fun i σ' H' _ z => ?_) ?_ ?_
  · obtain ⟨S', env', _, e', R'⟩ := z
    exact Vb.sq_of (R'.sh _ _ (e' _ _ s))
  · rintro i x σ' H' hx ⟨S', env', hI, e', R'⟩
    obtain ⟨A, hA, rA⟩ := g.at_ hx
    refine hs i A env' hA hI S' σ' H' _ _ R' (A.up e' rA) fun S4 σ4 H4 env4 g4 e4 R4 => ?_
    have e5 := ee.trans (e'.trans e4)
    exact g4 S4 σ4 H4 _ R4 ⟨fun S5 env5 σ5 H5 p q R5 => ⟨S5, env5, p, e'.trans (e4.trans q), R5⟩, (e.mono e5).rt, (e.mono e5).nx, fun S5 env5 σ5 H5 p q R5 => ⟨S5, env5, p, e'.trans (e4.trans q), R5⟩⟩
  · rintro σ' H' ⟨S', env', hI, e', R'⟩
    exact e.nx S' env' σ' H' (hd _ (by rw [g.len]; exact hI)) (ee.trans e') R'
theorem w_forT {g : TG} (h : E c tl env fun r env1 => ∃ As, r = .v (Tu K As) ∧ LoopL c As g ts env1 ⟨nx, rt, bk, ct⟩) : W c (tFor (iTup K tl) g ts) env ⟨nx, rt, bk, ct⟩ := fun S σ H d R e => by
  cases d with
  | mk nx rt bk ct =>
  refine Vb.r_for (h S σ H _ R fun S3 x H3 r env3 g1 ee R3 q1 => ?_)
  obtain ⟨As, rfl, Inv, h0, hs, hd⟩ := g1
  obtain ⟨a, xs, rfl, s, g⟩ := q1
  refine ⟨a, rfl, ⟨xs, Vb.sqd R3.sh s⟩, ?_⟩
  refine Vb.lp_tup (xs := xs) (fun i σ' H' => ∃ S' env', Inv i env' ∧ Same S3 S' ∧ Rep c S' env' σ' H') ⟨S3, env3, h0, Same.refl S3, R3⟩ (fun i σ' H' _ z => ?_) ?_ ?_
  · obtain ⟨S', env', _, e', R'⟩ := z
    exact Vb.sqd (e'.trans R'.sh) s
  · rintro i x σ' H' hx ⟨S', env', hI, e', R'⟩
    obtain ⟨A, hA, rA⟩ := g.at_ hx
    refine hs i A env' hA hI S' σ' H' _ _ R' (A.up e' rA) fun S4 σ4 H4 env4 g4 e4 R4 => ?_
    have e5 := ee.trans (e'.trans e4)
    exact g4 S4 σ4 H4 _ R4 ⟨fun S5 env5 σ5 H5 p q R5 => ⟨S5, env5, p, e'.trans (e4.trans q), R5⟩, (e.mono e5).rt, (e.mono e5).nx, fun S5 env5 σ5 H5 p q R5 => ⟨S5, env5, p, e'.trans (e4.trans q), R5⟩⟩
  · rintro σ' H' ⟨S', env', hI, e', R'⟩
    exact e.nx S' env' σ' H' (hd _ (by rw [g.len]; exact hI)) (ee.trans e') R'
theorem w_forA {g : TG} (h : E c tl env fun r env1 => ∃ A As, r = .v A ∧ SqOf K A As ∧ LoopL c As g ts env1 ⟨nx, rt, bk, ct⟩) : W c (tFor (Vb.iSeq K tl) g ts) env ⟨nx, rt, bk, ct⟩ := fun S σ H d R e => by
  cases d with
  | mk nx rt bk ct =>
  refine Vb.r_for (Vb.r_iSeq (h S σ H _ R fun S3 x H3 r env3 g1 ee R3 q1 => ?_))
  obtain ⟨A, As, rfl, hA, Inv, h0, hs, hd⟩ := g1
  obtain ⟨a, xs, rfl, s, g⟩ := hA _ _ q1
  refine ⟨a, rfl, ?_⟩
  rcases s with s | s
  · refine .inl ⟨⟨xs, Vb.sq_of (R3.sh _ _ s)⟩, ?_⟩
    refine Vb.lp_list (xs := xs) (fun i σ' H' => ∃ S' env', Inv i env' ∧ Same S3 S' ∧ Rep c S' env' σ' H') ⟨S3, env3, h0, Same.refl S3, R3⟩ (fun i σ' H' _ z => ?_) ?_ ?_
    · obtain ⟨S', env', _, e', R'⟩ := z
      exact Vb.sq_of (R'.sh _ _ (e' _ _ s))
    · rintro i x σ' H' hx ⟨S', env', hI, e', R'⟩
      obtain ⟨A, hA, rA⟩ := g.at_ hx
      refine hs i A env' hA hI S' σ' H' _ _ R' (A.up e' rA) fun S4 σ4 H4 env4 g4 e4 R4 => ?_
      have e5 := ee.trans (e'.trans e4)
      exact g4 S4 σ4 H4 _ R4 ⟨fun S5 env5 σ5 H5 p q R5 => ⟨S5, env5, p, e'.trans (e4.trans q), R5⟩, (e.mono e5).rt, (e.mono e5).nx, fun S5 env5 σ5 H5 p q R5 => ⟨S5, env5, p, e'.trans (e4.trans q), R5⟩⟩
    · rintro σ' H' ⟨S', env', hI, e', R'⟩
      exact e.nx S' env' σ' H' (hd _ (by rw [g.len]; exact hI)) (ee.trans e') R'
  · refine .inr ⟨⟨xs, Vb.sqd R3.sh s⟩, ?_⟩
    refine Vb.lp_tup (xs := xs) (fun i σ' H' => ∃ S' env', Inv i env' ∧ Same S3 S' ∧ Rep c S' env' σ' H') ⟨S3, env3, h0, Same.refl S3, R3⟩ (fun i σ' H' _ z => ?_) ?_ ?_
    · obtain ⟨S', env', _, e', R'⟩ := z
      exact Vb.sqd (e'.trans R'.sh) s
    · rintro i x σ' H' hx ⟨S', env', hI, e', R'⟩
      obtain ⟨A, hA, rA⟩ := g.at_ hx
      refine hs i A env' hA hI S' σ' H' _ _ R' (A.up e' rA) fun S4 σ4 H4 env4 g4 e4 R4 => ?_
      have e5 := ee.trans (e'.trans e4)
      exact g4 S4 σ4 H4 _ R4 ⟨fun S5 env5 σ5 H5 p q R5 => ⟨S5, env5, p, e'.trans (e4.trans q), R5⟩, (e.mono e5).rt, (e.mono e5).nx, fun S5 env5 σ5 H5 p q R5 => ⟨S5, env5, p, e'.trans (e4.trans q), R5⟩⟩
    · rintro σ' H' ⟨S', env', hI, e', R'⟩
      exact e.nx S' env' σ' H' (hd _ (by rw [g.len]; exact hI)) (ee.trans e') R'
theorem q_forA {A : Asn} {As : List Asn} {env1 : Ev} {g : TG} {P : PEnds} (h : SqOf K A As) (q : LoopL c As g ts env1 P) : ∃ A' As', Rs.v A = .v A' ∧ SqOf K A' As' ∧ LoopL c As' g ts env1 P := ⟨A, As, rfl, h, q⟩
theorem w_while (Inv : Nat → Ev → Prop) (m : Nat) (h0 : Inv m env) (hs : ∀ m env, Inv m env → T c t env fun b env1 => if b = true then W c ts env1 ⟨fun e => ∃ m', m' < m ∧ Inv m' e, rt, nx, fun e => ∃ m', m' < m ∧ Inv m' e⟩ else nx env1) : W c (tWhile t ts) env ⟨nx, rt, bk, ct⟩ := fun S σ H d R e => by
  cases d with
  | mk nx rt bk ct =>
  refine Vb.r_while (fun m σ' H' => ∃ S' env', Inv m env' ∧ Same S S' ∧ Rep c S' env' σ' H') m ⟨S, env, h0, Same.refl S, R⟩ ?_
  rintro m σ' H' ⟨S', env', hI, e', R'⟩
  refine hs m env' hI S' σ' H' _ R' fun S2 b H2 env2 g2 e2 R2 => ?_
  have e3 := e'.trans e2
  cases b with
  | false => rw [if_neg (by decide)] at g2 ⊢; exact e.nx S2 env2 σ' H2 g2 e3 R2
  | true =>
    rw [if_pos rfl] at g2 ⊢
    refine Vb.wh_body (g2 S2 σ' H2 _ R2 ⟨fun S3 env3 σ3 H3 p q R3 => ?_, (e.mono e3).rt, (e.mono e3).nx, fun S3 env3 σ3 H3 p q R3 => ?_⟩)
    all_goals
      obtain ⟨m', hm, hI'⟩ := p
      exact ⟨m', hm, S3, env3, hI', e3.trans q, R3⟩
end
end Pu
namespace Pu
open PySem PySem.Spec PyProof.Rows L2
/-! ### what never changes -/
def NLk : HO → Prop
  | .lst _ => False
  | .dK _ => False
  | .dT _ => False
  | .set _ _ => False
  | _ => True
class NL (A : Asn) : Prop where
  nl : ∀ {H H' : Hp} {v : V}, (∀ b o, H b = some o → NLk o → H' b = some o) → A.r H v → A.r H' v
class NLs (As : List Asn) : Prop where
  nl : ∀ {H H' : Hp} {vs : List V}, (∀ b o, H b = some o → NLk o → H' b = some o) → All H As vs → All H' As vs
class NLC (C : Cn) : Prop where
  nl : ∀ {H H' : Hp} {a : Addr} {o : HO}, (∀ b o, H b = some o → NLk o → H' b = some o) → C.r H a o → C.r H' a o
instance {x : V} : NL (Vl x) := ⟨fun _ h => h⟩
instance : NL Any := ⟨fun _ h => h⟩
instance : NLs [] := ⟨fun {_ _ vs} _ h => by cases vs with | nil => exact h | cons => exact h.elim⟩
instance {A : Asn} {As : List Asn} [a : NL A] [b : NLs As] : NLs (A :: As) := ⟨fun {_ _ vs} k h => by cases vs with | nil => exact h.elim | cons v vs => exact ⟨a.nl k h.1, b.nl k h.2⟩⟩
instance {α : Type} {f : α → Asn} {xs : List α} [a : ∀ x, NL (f x)] : NLs (xs.map f) := ⟨fun {H H' vs} k h => by
  induction xs generalizing vs with
  | nil => cases vs with | nil => exact h | cons => exact h.elim
  | cons x xs ih => cases vs with | nil => exact h.elim | cons v vs => exact ⟨(a x).nl k h.1, ih h.2⟩⟩
theorem sqT_nl {K : PySem.W.Frag} {H H' : Hp} {a : Addr} {xs : List V} (k : ∀ b o, H b = some o → NLk o → H' b = some o) (h : SqT K H a xs) : SqT K H' a xs := by
  rcases h with (h | ⟨o, h⟩) | h
  · exact .inl (.inl (k _ _ h trivial))
  · exact .inl (.inr ⟨o, k _ _ h trivial⟩)
  · exact .inr h
instance {K : PySem.W.Frag} {As : List Asn} [b : NLs As] : NL (Tu K As) := ⟨fun k ⟨a, xs, e, s, g⟩ => ⟨a, xs, e, k _ _ s trivial, b.nl k g⟩⟩
instance {As : List Asn} [b : NLs As] : NLC (Lc As) := ⟨fun k ⟨xs, e, g⟩ => ⟨xs, e, b.nl k g⟩⟩
/-- data without lists -/
inductive LF : PyData → Prop
  | non : LF .none
  | bl (b : Bool) : LF (.bool b)
  | int (i : Int) : LF (.int i)
  | str (s : Str) : LF (.str s)
  | tup {ds : List PyData} : (∀ d ∈ ds, LF d) → LF (.tuple ds)
class LFd (d : PyData) : Prop where
  lf : LF d
theorem dp_lf {K : PySem.W.Frag} {H H' : Hp} (k : ∀ b o, H b = some o → Fix o → H' b = some o) {d : PyData} (l : LF d) : ∀ {v : V}, Dp K H v d → Dp K H' v d := by
  induction l with
  | non => intro v h; cases h; exact .non
  | bl b => intro v h; cases h; exact .bl b
  | int i => intro v h; cases h; exact .int i
  | str s => intro v h; cases h; exact .str s
  | @tup ds hd ih =>
    intro v h
    cases h with
    | @tup a xs _ s g =>
      refine .tup (xs := xs) ?_ ?_
      · rcases s with (h | ⟨o, h⟩) | h
        · exact .inl (.inl (k _ _ h trivial))
        · exact .inl (.inr ⟨o, k _ _ h trivial⟩)
        · exact .inr h
      · have go : ∀ {es : List PyData} {ys : List V}, (∀ d ∈ es, d ∈ ds) → DpAll K H ys es → DpAll K H' ys es := by
          intro es
          induction es with
          | nil => intro ys _ h; cases h; exact .nil
          | cons e es ihe =>
            intro ys m h
            cases h with
            | cons h1 h2 => exact .cons (ih e (m e List.mem_cons_self) h1) (ihe (fun d h => m d (List.mem_cons_of_mem _ h)) h2)
        exact go (fun _ h => h) g
instance {K : PySem.W.Frag} {d : PyData} [l : LFd d] : NL (D K d) := ⟨fun k h => dp_lf (fun b o g f => k b o g (by cases o <;> first | exact f.elim | trivial)) l.lf h⟩
/-! ### promises -/
abbrev XP := Addr → List (Str × Asn) → Prop
abbrev PSp := List Asn → (Rs → Prop) → XP → Prop
def Rt (H S H' : Hp) : Rs → V → Prop
  | .v A, x => A.r S x
  | .o C, x => ∃ a ob, x = .ref a ∧ H' a = some ob ∧ C.r S a ob ∧ S a = none ∧ H a = none
  | .cp _, _ => False
def Er (S : Hp) (d : Option Addr) (fs : List (Str × Asn)) : Prop := (d = none ∧ fs = []) ∨ ∃ dd gs, d = some dd ∧ S dd = some (.xd gs) ∧ gs.map Prod.fst = fs.map Prod.fst ∧ All S (fs.map Prod.snd) (gs.map Prod.snd)
theorem Er.up {S S' : Hp} {d : Option Addr} {fs : List (Str × Asn)} (h : Er S d fs) (e : Same S S') : Er S' d fs := h.imp id fun ⟨dd, gs, h1, h2, h3, h4⟩ => ⟨dd, gs, h1, e _ _ h2, h3, h4.up e⟩
structure Nxt (so : Option Addr) (B H S H' : Hp) : Prop where
  f : Frm so H H'
  b : Same B S
  s : Same S H'
  n : ∀ b o, S b = some o → B b = some o ∨ H b = none ∨ Fix o
def Core (so : Option Addr) (φ : PSp) (vs : List V) (H : Hp) (Q : VK) (E : XK) : Prop := ∃ B As k X, φ As k X ∧ Same B H ∧ All B As vs ∧ (∀ st, so = some st → Vb.StoreAt H st ∧ B st = none) ∧
  (∀ S r x H', k r → Nxt so B H S H' → Rt H S H' r x → Q x H') ∧ ∀ C fs d S H', X C fs → Nxt so B H S H' → Er S d fs → E (.ref C) d H'
def toSp (φ : PSp) : Sp := fun vs H Q E => Core none φ vs H Q E
def toSpS (φ : PSp) : Sp := fun vs H Q E => ∃ st us, vs = .ref st :: us ∧ Core (some st) φ us H Q E
section
variable {so : Option Addr} {c : Ct so} {S : Hp} {env : Ev} {σ : L2.St} {H : Hp}
/-- behind a call -/
theorem Rep.after (R : Rep c S env σ H) {S' H' : Hp} (n : Nxt so S H S' H') : Rep c S' env σ H' := R.to n.f n.b n.s n.n fun i a h => by
  obtain ⟨⟨C, h0⟩, h0'⟩ := id h
  obtain ⟨a', ob, _, h1, z, hC⟩ := R.own h0
  rw [h0'] at h1
  cases h1
  have f := R.fr i a h
  have e : H' a = H a := by
    rw [z]
    refine n.f.k a ob (fun y => ?_) z
    obtain ⟨_, _, _, _, _, _, _, w, _⟩ := R.s0 a y
    rw [f.1] at w
    cases w
  refine ⟨e, ?_⟩
  cases y : S' a with
  | none => rfl
  | some u =>
    rcases n.n a u y with y' | y' | y'
    · rw [f.2] at y'; cases y'
    · rw [z] at y'; cases y'
    · rw [z, n.s a u y] at e
      cases e
      exact absurd y' (C.nf hC)
theorem Rep.rt (R : Rep c S env σ H) {S' H' : Hp} {r : Rs} {x : V} (h : Rt H S' H' r x) : ROk c S' H' env σ r x := by
  cases r with
  | v A => exact h
  | o C =>
    obtain ⟨a, ob, e, h1, h2, h3, h4⟩ := h
    exact ⟨a, ob, e, h1, h2, h3, R.frm.none_of h4, R.g_none h4, R.not_own h4⟩
  | cp i => exact h.elim
/-- a call that knows of the store, from one that has none, or the other way -/
theorem Nxt.store {B S' H' : Hp} (n : Nxt none B H S' H') (s : ∀ st, so = some st → Vb.StoreAt H st) : Nxt so B H S' H' := ⟨(Frm.refl s).same n.f.to_same, n.b, n.s, n.n⟩
open Classical in
/-- what is shared, and what one's own slots hold, to be read -/
noncomputable def lent (S : Hp) (env : Ev) (σ : L2.St) (H : Hp) : Hp := fun b => match S b with
  | some o => some o
  | none => if (∃ i, Own env σ i b) ∧ ∃ o, H b = some o ∧ ¬ NLk o then H b else none
theorem lent_S {b : Addr} {o : HO} (h : S b = some o) : lent S env σ H b = some o := by unfold lent; rw [h]
theorem lent_sub (R : Rep c S env σ H) : Same (lent S env σ H) H := fun b o h => by
  unfold lent at h
  cases e : S b with
  | some u => rw [e] at h; exact (Option.some.inj h) ▸ R.sh b u e
  | none =>
    rw [e] at h
    simp only at h
    split at h
    · exact h
    · cases h
theorem lent_own {i : Nat} {a : Addr} {o : HO} (R : Rep c S env σ H) (h : Own env σ i a) (h1 : H a = some o) (h2 : ¬ NLk o) : lent S env σ H a = some o := by
  unfold lent
  rw [(R.fr i a h).2]
  simp only
  rw [if_pos ⟨⟨i, h⟩, o, h1, h2⟩]
  exact h1
theorem lent_k {b : Addr} {o : HO} (h : lent S env σ H b = some o) (n : NLk o) : S b = some o := by
  unfold lent at h
  cases e : S b with
  | some u => rw [e] at h; exact h
  | none =>
    rw [e] at h
    simp only at h
    split at h
    · rename_i z
      obtain ⟨_, u, h1, h2⟩ := z
      rw [h1] at h
      cases h
      exact absurd n h2
    · cases h
theorem lent_st (R : Rep c S env σ H) {st : Addr} (e : so = some st) : lent S env σ H st = none := by
  unfold lent
  rw [R.sf st e]
  simp only
  rw [if_neg]
  rintro ⟨⟨i, z⟩, _⟩
  obtain ⟨_, _, _, _, _, _, _, w, _⟩ := R.s0 st e
  rw [(R.fr i st z).1] at w
  cases w
open Classical in
noncomputable def backS (S H S' : Hp) : Hp := fun b => match S b with
  | some o => some o
  | none => match S' b with
    | some o => if H b = none ∨ Fix o then some o else none
    | none => none
theorem back_of {S H S' : Hp} {b : Addr} {o : HO} (h : backS S H S' b = some o) : S b = some o ∨ (S' b = some o ∧ (H b = none ∨ Fix o)) := by
  unfold backS at h
  cases e : S b with
  | some u => rw [e] at h; exact .inl h
  | none =>
    rw [e] at h
    cases e' : S' b with
    | none => rw [e'] at h; cases h
    | some u =>
      rw [e'] at h
      simp only at h
      split at h
      · cases h; exact .inr ⟨rfl, ‹_›⟩
      · cases h
theorem back_mk {S H S' : Hp} {b : Addr} {o : HO} (h : S' b = some o) (n : H b = none ∨ Fix o) (k : ∀ u, S b = some u → u = o) : backS S H S' b = some o := by
  unfold backS
  cases e : S b with
  | some u => rw [k u e]
  | none =>
    rw [h]
    simp only
    rw [if_pos n]
theorem back_nxt {S' H' : Hp} (R : Rep c S env σ H) (n : Nxt so (lent S env σ H) H S' H') : Nxt so S H (backS S H S') H' := by
  refine ⟨n.f, fun b o h => by unfold backS; rw [h], fun b o h => ?_, fun b o h => ?_⟩
  · rcases back_of h with h | ⟨h, _⟩
    · exact n.s b _ (n.b b _ (lent_S h))
    · exact n.s b o h
  · exact (back_of h).imp id (·.2)
theorem back_k {S' H' : Hp} (n : Nxt so (lent S env σ H) H S' H') : ∀ b o, S' b = some o → NLk o → backS S H S' b = some o := fun b o h k => by
  have u : ∀ u, S b = some u → u = o := fun u e => by
    have := n.b b u (lent_S e)
    rw [h] at this
    exact (Option.some.inj this).symm
  rcases n.n b o h with z | z
  · have := lent_k z k
    unfold backS
    rw [this]
  · exact back_mk h z u
end
/-! ### calls -/
section
variable {so : Option Addr} {c : Ct so} {K : PySem.W.Frag} {env : Ev} {k : Rs → Ev → Prop} {te ta tb : TE} {t : TA}
/-- what is wanted of an exception, by the slots -/
abbrev XE := Ev → Addr → List (Str × Asn) → Prop
def ExOk (c : Ct so) (X : XE) (Ex : L2.St → XK) : Prop := ∀ S env σ H C fs d, X env C fs → Rep c S env σ H → Er S d fs → Ex σ (.ref C) d H
theorem ExOk.none {Ex : L2.St → XK} : ExOk c (fun _ _ _ => False) Ex := fun _ _ _ _ _ _ _ h => h.elim
/-- the values of results, for a callee; b: one of them is one's own -/
inductive Ps (env : Ev) : Bool → List Rs → List Asn → Prop
  | nil {b : Bool} : Ps env b [] []
  | v {b : Bool} {A : Asn} {rs : List Rs} {As : List Asn} : Ps env b rs As → Ps env b (.v A :: rs) (A :: As)
  | w {b : Bool} {A B : Asn} {rs : List Rs} {As : List Asn} : Imp A B → Ps env b rs As → Ps env b (.v A :: rs) (B :: As)
  | cp {i : Nat} {Bs : List Asn} {rs : List Rs} {As : List Asn} : env[i]? = some (.o (Lc Bs)) → Ps env true rs As → Ps env true (.cp i :: rs) (L Bs :: As)
  | cpv {b : Bool} {i : Nat} {A : Asn} {rs : List Rs} {As : List Asn} : env[i]? = some (.v A) → Ps env b rs As → Ps env b (.cp i :: rs) (A :: As)
theorem Ps.allF {rs : List Rs} {As : List Asn} {S H : Hp} {σ : L2.St} : ∀ {xs : List V}, Ps env false rs As → Rep c S env σ H → Oks c S H env σ rs xs → All S As xs := by
  intro xs h R q
  generalize hb : false = b at h
  induction h generalizing xs with
  | nil => cases xs with | nil => exact q | cons => exact q.elim
  | v h ih => cases xs with | nil => exact q.elim | cons x xs => exact ⟨q.1.2, ih q.2 hb⟩
  | w i h ih => cases xs with | nil => exact q.elim | cons x xs => exact ⟨i _ _ q.1.2, ih q.2 hb⟩
  | cp => cases hb
  | cpv e h ih =>
    cases xs with
    | nil => exact q.elim
    | cons x xs =>
      obtain ⟨y, h1, h2⟩ := R.at_ e
      have hx : σ[_]? = some (some x) := q.1.2
      rw [hx] at h1
      cases h1
      exact ⟨h2, ih q.2 hb⟩
theorem Ps.allT {rs : List Rs} {As : List Asn} {S H : Hp} {σ : L2.St} {b : Bool} : ∀ {xs : List V}, Ps env b rs As → Rep c S env σ H → Oks c S H env σ rs xs → All (lent S env σ H) As xs := by
  intro xs h R q
  have e : Same S (lent S env σ H) := fun b o h => lent_S h
  induction h generalizing xs with
  | nil => cases xs with | nil => exact q | cons => exact q.elim
  | v h ih => cases xs with | nil => exact q.elim | cons x xs => exact ⟨Asn.up _ e q.1.2, ih q.2⟩
  | w i h ih => cases xs with | nil => exact q.elim | cons x xs => exact ⟨Asn.up _ e (i _ _ q.1.2), ih q.2⟩
  | cp g h ih =>
    cases xs with
    | nil => exact q.elim
    | cons x xs =>
      obtain ⟨a, ob, ow, h1, h2, ys, rfl, h3⟩ := R.own g
      have hx : σ[_]? = some (some x) := q.1.2
      rw [hx] at h1
      cases h1
      exact ⟨⟨a, ys, rfl, lent_own R ow h2 (fun z => z), h3.up e⟩, ih q.2⟩
  | cpv g h ih =>
    cases xs with
    | nil => exact q.elim
    | cons x xs =>
      obtain ⟨y, h1, h2⟩ := R.at_ g
      have hx : σ[_]? = some (some x) := q.1.2
      rw [hx] at h1
      cases h1
      exact ⟨Asn.up _ e h2, ih q.2⟩
/-- a result that may be kept although a callee was lent one's own -/
inductive NLr : Rs → Prop
  | v {A : Asn} [NL A] : NLr (.v A)
  | o {C : Cn} [NLC C] : NLr (.o C)
inductive NLf : List (Str × Asn) → Prop
  | nil : NLf []
  | cons {f : Str} {A : Asn} {fs : List (Str × Asn)} [NL A] : NLf fs → NLf ((f, A) :: fs)
theorem NLf.all {S S' : Hp} (k : ∀ b o, S b = some o → NLk o → S' b = some o) : ∀ {fs : List (Str × Asn)} {vs : List V}, NLf fs → All S (fs.map Prod.snd) vs → All S' (fs.map Prod.snd) vs
  | [], [], _, h => h
  | [], _ :: _, _, h => h.elim
  | _ :: _, [], _, h => h.elim
  | (f, A) :: fs, v :: vs, n, h => by
    cases n with
    | @cons _ _ _ a n => exact ⟨a.nl k h.1, NLf.all k n h.2⟩
theorem NLf.er {S S' : Hp} {d : Option Addr} {fs : List (Str × Asn)} (k : ∀ b o, S b = some o → NLk o → S' b = some o) (n : NLf fs) (h : Er S d fs) : Er S' d fs := h.imp id fun ⟨dd, gs, h1, h2, h3, h4⟩ => ⟨dd, gs, h1, k _ _ h2 trivial, h3, n.all k h4⟩
theorem NLr.rt {H S S' H' : Hp} {r : Rs} {x : V} (n : NLr r) (k : ∀ b o, S b = some o → NLk o → S' b = some o) (s : ∀ b, H b = none → S b = none → S' b = none) (h : Rt H S H' r x) : Rt H S' H' r x := by
  cases n with
  | @v A a => exact a.nl k h
  | @o C a =>
    obtain ⟨p, ob, e, h1, h2, h3, h4⟩ := h
    exact ⟨p, ob, e, h1, a.nl k h2, s p h4 h3, h4⟩
/-- the question behind the arguments -/
def Cl (φ : PSp) (rs : List Rs) (env : Ev) (k : Rs → Ev → Prop) (X : XE) : Prop := (∃ As, Ps env false rs As ∧ φ As (fun r => k r env) fun C fs => X env C fs) ∨ ∃ As, Ps env true rs As ∧ φ As (fun r => NLr r ∧ k r env) fun C fs => NLf fs ∧ X env C fs
theorem cl_f {φ : PSp} {rs : List Rs} {As : List Asn} {X : XE} (h : Ps env false rs As) (q : φ As (fun r => k r env) fun C fs => X env C fs) : Cl φ rs env k X := .inl ⟨As, h, q⟩
theorem cl_t {φ : PSp} {rs : List Rs} {As : List Asn} {X : XE} (h : Ps env true rs As) (q : φ As (fun r => NLr r ∧ k r env) fun C fs => NLf fs ∧ X env C fs) : Cl φ rs env k X := .inr ⟨As, h, q⟩
theorem Cl.go {φ : PSp} {rs : List Rs} {X : XE} {Ex : L2.St → XK} {S H : Hp} {σ : L2.St} {xs : List V} {Q : VK} (h : Cl φ rs env k X) (hx : ExOk c X Ex) (R : Rep c S env σ H) (q : Oks c S H env σ rs xs) (z : ∀ S' x H' r env', k r env' → Same S S' → Rep c S' env' σ H' → ROk c S' H' env' σ r x → Q x H') : Core so φ xs H Q (Ex σ) := by
  rcases h with ⟨As, h, p⟩ | ⟨As, h, p⟩
  · refine ⟨S, As, _, _, p, R.sh, h.allF R q, fun st e => ⟨R.stf st e, R.sf st e⟩, fun S' r x H' g n w => z S' x H' r env g n.b (R.after n) (R.rt w), fun C fs d S' H' g n w => hx S' env σ H' C fs d g (R.after n) w⟩
  · refine ⟨lent S env σ H, As, _, _, p, lent_sub R, h.allT R q, fun st e => ⟨R.stf st e, lent_st R e⟩, fun S' r x H' g n w => ?_, fun C fs d S' H' g n w => ?_⟩
    · have n' := back_nxt R n
      exact z _ x H' r env g.2 n'.b (R.after n') (R.rt (g.1.rt (back_k n) (fun b h1 h2 => by
        unfold backS
        rw [R.s_none h1, h2]) w))
    · have n' := back_nxt R n
      exact hx _ env σ H' C fs d g.2 (R.after n') (g.1.er (back_k n) w)
theorem Core.none {φ : PSp} {vs : List V} {H : Hp} {Q : VK} {E : XK} (s : ∀ st, so = some st → Vb.StoreAt H st) (h : Core so φ vs H Q E) : Core Option.none φ vs H Q E := by
  obtain ⟨B, As, k, X, p, b, a, _, q1, q2⟩ := h
  exact ⟨B, As, k, X, p, b, a, fun _ z => (by cases z), fun S r x H' g n w => q1 S r x H' g (n.store s) w, fun C fs d S H' g n w => q2 C fs d S H' g (n.store s) w⟩
theorem e_callS {φ : PSp} {X : XE} {Ex : L2.St → XK} (hx : ExOk c X Ex) (h : EA c t env fun rs env1 => Cl φ rs env1 k X) : E c (tCallS (toSp φ) Ex t) env k := fun S σ H Q R z => by
  refine Vb.r_callS (h S σ H _ R fun S1 xs H1 rs env1 g1 e1 R1 q1 => ?_)
  exact Core.none R1.stf (g1.go hx R1 q1 fun S' x H' r env' g e => z S' x H' r env' g (e1.trans e))
theorem e_call {φ : PSp} {Ex : XK} (h : EA c t env fun rs env1 => Cl φ rs env1 k fun _ _ _ => False) : E c (tCall (toSp φ) [] Ex t) env k := fun S σ H Q R z => by
  refine Vb.r_call (h S σ H _ R fun S1 xs H1 rs env1 g1 e1 R1 q1 => ?_)
  exact Core.none R1.stf (g1.go (Ex := fun _ => Ex) ExOk.none R1 q1 fun S' x H' r env' g e => z S' x H' r env' g (e1.trans e))
end
section
variable {st : Addr} {c : Ct (some st)} {K : PySem.W.Frag} {env : Ev} {k : Rs → Ev → Prop} {te ta tb : TE} {t : TA}
/-- the store is the first argument -/
def ClS (st : Addr) (φ : PSp) (rs : List Rs) (env : Ev) (k : Rs → Ev → Prop) (X : XE) : Prop := ∃ rs', rs = .v (Rf st) :: rs' ∧ Cl φ rs' env k X
theorem cls_ {φ : PSp} {rs : List Rs} {X : XE} (h : Cl φ rs env k X) : ClS st φ (.v (Rf st) :: rs) env k X := ⟨rs, rfl, h⟩
theorem ClS.go {φ : PSp} {rs : List Rs} {X : XE} {Ex : L2.St → XK} {S H : Hp} {σ : L2.St} {xs : List V} {Q : VK} (h : ClS st φ rs env k X) (hx : ExOk c X Ex) (R : Rep c S env σ H) (q : Oks c S H env σ rs xs) (z : ∀ S' x H' r env', k r env' → Same S S' → Rep c S' env' σ H' → ROk c S' H' env' σ r x → Q x H') : toSpS φ xs H Q (Ex σ) := by
  obtain ⟨rs', rfl, h⟩ := h
  cases xs with
  | nil => exact q.elim
  | cons x xs =>
    cases (show x = .ref st from q.1.2)
    exact ⟨st, xs, rfl, h.go hx R q.2 z⟩
theorem e_callSS {φ : PSp} {X : XE} {Ex : L2.St → XK} (hx : ExOk c X Ex) (h : EA c t env fun rs env1 => ClS st φ rs env1 k X) : E c (tCallS (toSpS φ) Ex t) env k := fun S σ H Q R z => by
  refine Vb.r_callS (h S σ H _ R fun S1 xs H1 rs env1 g1 e1 R1 q1 => ?_)
  exact g1.go hx R1 q1 fun S' x H' r env' g e => z S' x H' r env' g (e1.trans e)
theorem e_callZ {φ : PSp} {Ex : XK} (h : EA c t env fun rs env1 => ClS st φ rs env1 k fun _ _ _ => False) : E c (tCall (toSpS φ) [] Ex t) env k := fun S σ H Q R z => by
  refine Vb.r_call (h S σ H _ R fun S1 xs H1 rs env1 g1 e1 R1 q1 => ?_)
  exact g1.go (Ex := fun _ => Ex) ExOk.none R1 q1 fun S' x H' r env' g e => z S' x H' r env' g (e1.trans e)
end
/-! ### a def -/
def envOf (n : Nat) (ss : List Sl) : Ev := ss ++ List.replicate (n - ss.length) .un
theorem start_get {N : List Str} {vs : List V} (l : vs.length ≤ N.length) (i : Nat) : (start N vs)[i]? = if i < vs.length then (vs[i]?).map some else if i < N.length then some none else none := by
  unfold L2.start
  by_cases h : i < vs.length
  · rw [if_pos h, List.getElem?_append_left (by rw [List.length_map]; exact h), List.getElem?_map]
  · rw [if_neg h, List.getElem?_append_right (by rw [List.length_map]; omega), List.length_map]
    by_cases h2 : i < N.length
    · rw [if_pos h2, List.getElem?_replicate, if_pos (by omega)]
    · rw [if_neg h2, List.getElem?_replicate, if_neg (by omega)]
theorem rep0 {so : Option Addr} {B H : Hp} {N : List Str} {As : List Asn} {vs : List V} (l : vs.length ≤ N.length) (a : All B As vs) (b : Same B H) (s : ∀ st, so = some st → Vb.StoreAt H st ∧ B st = none) : Rep (⟨B, H, fun _ => none⟩ : Ct so) B (envOf N.length (As.map Sl.v)) (start N vs) H := by
  have la := a.len
  have no : ∀ i p, ¬ Own (envOf N.length (As.map Sl.v)) (start N vs) i p := by
    rintro i p ⟨⟨C, h⟩, _⟩
    unfold envOf at h
    by_cases z : i < As.length
    · rw [List.getElem?_append_left (by rw [List.length_map]; exact z), List.getElem?_map] at h
      cases e : As[i]? with
      | none => rw [e] at h; cases h
      | some A => rw [e] at h; cases h
    · rw [List.getElem?_append_right (by rw [List.length_map]; omega), List.getElem?_replicate] at h
      split at h
      · cases h
      · cases h
  refine ⟨Frm.refl fun st e => (s st e).1, Same.refl B, b, fun _ _ h => .inl h, fun st e => (s st e).2, ?_, fun st e => (s st e).1, fun i sl h => ?_, fun i j p h => absurd h (no i p), fun i p h => absurd h (no i p), fun _ _ h => by cases h⟩
  · unfold envOf L2.start
    simp only [List.length_append, List.length_replicate, List.length_map, la]
  · rw [start_get l]
    unfold envOf at h
    by_cases z : i < As.length
    · rw [List.getElem?_append_left (by rw [List.length_map]; exact z), List.getElem?_map] at h
      cases e : As[i]? with
      | none => rw [e] at h; cases h
      | some A =>
        rw [e] at h
        cases h
        obtain ⟨v, h1, h2⟩ := a.get e
        rw [if_pos (by omega), h1]
        exact ⟨_, rfl, v, rfl, h2⟩
    · rw [List.getElem?_append_right (by rw [List.length_map]; omega), List.getElem?_replicate] at h
      split at h
      · cases h
        rename_i y
        rw [List.length_map] at y
        rw [if_neg (by omega), if_pos (by omega)]
        exact ⟨none, rfl, trivial⟩
      · cases h
section
variable {P : Program} {w : World} {K : PySem.W.Frag} {mg : Str → Option Value} {base : Heap}
theorem rt_of {so : Option Addr} {c : Ct so} {S H : Hp} {r : Rs} {x : V} (h : RtOk c c.H0 S H r x) : Rt c.H0 S H r x := by
  cases r with
  | v A => exact h
  | o C =>
    obtain ⟨a, ob, e, h1, h2, h3, h4, _⟩ := h
    exact ⟨a, ob, e, h1, h2, h3, h4⟩
  | cp i => exact h
theorem Rep.nxt {so : Option Addr} {c : Ct so} {S H : Hp} {env : Ev} {σ : L2.St} (R : Rep c S env σ H) : Nxt so c.B c.H0 S H := ⟨R.frm, R.bs, R.sh, R.nw⟩
/-- a def without the store -/
theorem okP {x qual : Str} {sd : Stmt} {f : Addr} {fd : FuncData} {N ps : List Str} {k : Nat} {φ : PSp} (F : Fun K x qual sd f fd) (S : FnScope N ps (defScope sd)) (hl : ps.length ≤ N.length := by decide) (len : ∀ As k X, φ As k X → As.length = ps.length)
    (hbody : ∀ (cdv : Value) (A : Around) (outer : List _root_.PySem.Env) (s : Shared) (H : Hp) (E : XK) (c : Ct none) (As : List Asn) (kk : Rs → Prop) (X : XP), Room k (A.deeper (envOfC qual (defScope sd) s.heap.objs.size f cdv)) → ExOk c (fun _ => X) (fun _ => E) → φ As kk X →
      ∃ t, PSs (cxOf (L2N.CX P w) P w K mg base N qual (defScope sd) f cdv A outer s H E) (defBody sd) t ∧ W c t (envOf N.length (As.map Sl.v)) ⟨fun _ => kk (.v No), kk, fun _ => False, fun _ => False⟩) : FnOk P w K mg base (L2N.CX P w) (k + 1) f fd ps (toSp φ) := by
  refine Vb.okN F S (fun vs H Q E h => ?_) (fun cdv A outer s H vs Q E hr h => ?_)
  · obtain ⟨B, As, kk, X, p, _, a, _⟩ := h
    rw [← a.len]
    exact len _ _ _ p
  · obtain ⟨B, As, kk, X, p, b, a, _, q1, q2⟩ := h
    have l : vs.length ≤ N.length := by rw [← a.len, len _ _ _ p]; exact hl
    have R := rep0 (so := none) (N := N) l a b (fun _ z => by cases z)
    obtain ⟨t, h1, h2⟩ := hbody cdv A outer s H E ⟨B, H, fun _ => none⟩ As kk X hr (fun S' env σ H' C fs d g R' w => q2 C fs d S' H' g R'.nxt w) p
    refine ⟨t, h1, h2 _ _ _ _ R ⟨fun S' env σ H' g _ R' => q1 S' _ .non H' g R'.nxt rfl, fun S' env σ H' r x g _ R' w => q1 S' r x H' g R'.nxt (rt_of w), fun _ _ _ _ z => z.elim, fun _ _ _ _ z => z.elim⟩⟩
/-- a def whose first argument is the store -/
theorem okPS {x qual : Str} {sd : Stmt} {f : Addr} {fd : FuncData} {N ps : List Str} {k : Nat} {φ : PSp} (F : Fun K x qual sd f fd) (S : FnScope N ps (defScope sd)) (hl : ps.length ≤ N.length := by decide) (len : ∀ As k X, φ As k X → As.length + 1 = ps.length)
    (hbody : ∀ (cdv : Value) (A : Around) (outer : List _root_.PySem.Env) (s : Shared) (H : Hp) (E : XK) (st : Addr) (c : Ct (some st)) (As : List Asn) (kk : Rs → Prop) (X : XP), Room k (A.deeper (envOfC qual (defScope sd) s.heap.objs.size f cdv)) → ExOk c (fun _ => X) (fun _ => E) → φ As kk X →
      ∃ t, PSs (cxOf (L2N.CX P w) P w K mg base N qual (defScope sd) f cdv A outer s H E) (defBody sd) t ∧ W c t (envOf N.length (.v (Rf st) :: As.map Sl.v)) ⟨fun _ => kk (.v No), kk, fun _ => False, fun _ => False⟩) : FnOk P w K mg base (L2N.CX P w) (k + 1) f fd ps (toSpS φ) := by
  refine Vb.okN F S (fun vs H Q E h => ?_) (fun cdv A outer s H vs Q E hr h => ?_)
  · obtain ⟨st, us, rfl, B, As, kk, X, p, _, a, _⟩ := h
    rw [List.length_cons, ← a.len]
    exact len _ _ _ p
  · obtain ⟨st, us, rfl, B, As, kk, X, p, b, a, s0, q1, q2⟩ := h
    have l : (V.ref st :: us).length ≤ N.length := by rw [List.length_cons, ← a.len, len _ _ _ p]; exact hl
    have R := rep0 (so := some st) (N := N) (As := Rf st :: As) (vs := .ref st :: us) l ⟨rfl, a⟩ b s0
    obtain ⟨t, h1, h2⟩ := hbody cdv A outer s H E st ⟨B, H, fun _ => none⟩ As kk X hr (fun S' env σ H' C fs d g R' w => q2 C fs d S' H' g R'.nxt w) p
    refine ⟨t, h1, h2 _ _ _ _ R ⟨fun S' env σ H' g _ R' => q1 S' _ .non H' g R'.nxt rfl, fun S' env σ H' r x g _ R' w => q1 S' r x H' g R'.nxt (rt_of w), fun _ _ _ _ z => z.elim, fun _ _ _ _ z => z.elim⟩⟩
end
end Pu
namespace Pu
open PySem PySem.Spec PyProof.Rows L2
section
variable {so : Option Addr} {c : Ct so} {S S' : Hp} {env : Ev} {σ : L2.St} {H H' : Hp}
/-! ### something further out is held -/
def Ct.hold (c : Ct so) (D : Addr) (o : HO) : Ct so := { c with G := upd c.G D o }
theorem Rep.hold (R : Rep c S env σ H) {D : Addr} {o : HO} (h : H D = some o) (nf : ¬ Fix o) (h0 : c.H0 D = none) (hs : S D = none) (no : ∀ i, ¬ Own env σ i D) : Rep (c.hold D o) S env σ H := ⟨R.frm, R.bs, R.sh, R.nw, R.sf, R.len, R.s0, R.sl, R.dj, R.fr, fun b u g => by
  by_cases z : b = D
  · subst z
    have g : upd c.G b o b = some u := g
    rw [upd_same] at g
    cases g
    exact ⟨h, h0, hs, nf, no⟩
  · have g : upd c.G D o b = some u := g
    rw [upd_ne z] at g
    exact R.gh b u g⟩
theorem Rep.unhold {D : Addr} {o : HO} (R : Rep (c.hold D o) S env σ H) (g0 : c.G D = none) : Rep c S env σ H := ⟨R.frm, R.bs, R.sh, R.nw, R.sf, R.len, R.s0, R.sl, R.dj, R.fr, fun b u g => R.gh b u (by
  show upd c.G D o b = some u
  rw [upd_ne fun z => by rw [z, g0] at g; cases g]
  exact g)⟩
theorem Rep.held {D : Addr} {o : HO} (R : Rep (c.hold D o) S env σ H) : H D = some o ∧ c.H0 D = none ∧ S D = none ∧ (¬ Fix o) ∧ ∀ i, ¬ Own env σ i D := R.gh D o upd_same
/-- what nobody here knows is changed -/
theorem Rep.other (R : Rep c S env σ H) {D : Addr} {o : HO} (h0 : c.H0 D = none) (hs : S D = none) (hg : c.G D = none) (no : ∀ i, ¬ Own env σ i D) : Rep c S env σ (upd H D o) := by
  have ne : ∀ b o, c.H0 b = some o → b ≠ D := fun b o g z => by rw [z, h0] at g; cases g
  refine ⟨⟨fun b o n g => ?_, fun st z => ?_, fun st z l r g => ?_⟩, R.bs, Vb.same_mut R.sh hs, R.nw, R.sf, R.len, R.s0, fun i s g => ?_, R.dj, R.fr, fun b u g => ?_⟩
  · rw [upd_ne (ne b o g)]; exact R.frm.k b o n g
  · subst z
    exact (R.s0 st rfl).mut h0 R.frm.fr (R.frm.s st rfl)
  · obtain ⟨r', g'⟩ := R.frm.hd st z l r g
    exact ⟨r', by rw [upd_ne (ne _ _ g)]; exact g'⟩
  · obtain ⟨u, g1, g2⟩ := R.sl i s g
    refine ⟨u, g1, g2.up (Same.refl S) fun C2 b e1 e2 => ?_⟩
    subst e1 e2
    exact upd_ne fun y => no i (y ▸ ⟨⟨C2, g⟩, g1⟩)
  · obtain ⟨x1, x2, x3, xf, x4⟩ := R.gh b u g
    exact ⟨by rw [upd_ne fun z => by rw [z, hg] at g; cases g]; exact x1, x2, x3, xf, x4⟩
def NoOwn (env : Ev) (j : Nat) : Prop := ∀ C, env[j]? ≠ some (.o C)
theorem no_un {j : Nat} (h : env[j]? = some .un) : NoOwn env j := fun C z => by rw [h] at z; cases z
theorem no_v {j : Nat} {A : Asn} (h : env[j]? = some (.v A)) : NoOwn env j := fun C z => by rw [h] at z; cases z
/-- slot j as it was -/
theorem Rep.back {H1 : Hp} {s : Sl} {u : Option V} (R0 : Rep c S env σ H) (e : Same S S') {j : Nat} (n : NoOwn env j) (ns : ∀ C, s ≠ .o C) (R : Rep c S' (env.set j s) (σ.set j u) H1) : Rep c S' env σ H1 := by
  have ow : ∀ i a, Own env σ i a → Own (env.set j s) (σ.set j u) i a := fun i a ⟨⟨C, h1⟩, h2⟩ => by
    have z : j ≠ i := fun z => n C (z ▸ h1)
    exact ⟨⟨C, by rw [List.getElem?_set_ne z]; exact h1⟩, by rw [List.getElem?_set_ne z]; exact h2⟩
  refine ⟨R.frm, R.bs, R.sh, R.nw, R.sf, R0.len, R.s0, fun i t g => ?_, fun i k a h1 h2 => R.dj i k a (ow _ _ h1) (ow _ _ h2), fun i a h => R.fr i a (ow _ _ h), fun b o g => ⟨(R.gh b o g).1, (R.gh b o g).2.1, (R.gh b o g).2.2.1, (R.gh b o g).2.2.2.1, fun i h => (R.gh b o g).2.2.2.2 i (ow _ _ h)⟩⟩
  by_cases z : j = i
  · subst z
    obtain ⟨u', h1, h2⟩ := R0.sl j t g
    refine ⟨u', h1, ?_⟩
    cases t with
    | un => trivial
    | v A => obtain ⟨x, a, b⟩ := h2; exact ⟨x, a, A.up e b⟩
    | o C => exact absurd g (n C)
  · have := R.sl i t (by rw [List.getElem?_set_ne z]; exact g)
    rw [List.getElem?_set_ne z] at this
    exact this
end
/-! ### comprehensions -/
section
variable {so : Option Addr} {c : Ct so} {K : PySem.W.Frag} {env : Ev} {k : Rs → Ev → Prop} {te tl : TE} {tt : TT}
/-- a turn: N of what the list holds behind it -/
def LcS (c : Ct so) (tt : TT) (te : TE) (env : Ev) (acc : List Asn) (N : List Asn → Prop) : Prop := T c tt env fun b env1 => if b = true then E c te env1 fun r env2 => Z r fun r1 => Fz [r1] env2 fun Bs env3 => ∃ A B, Bs = [A] ∧ Imp A B ∧ env3 = env ∧ acc.length < 16777216 ∧ N (acc ++ [B]) else env1 = env ∧ N acc
def LcN (c : Ct so) (n : Nat) (it : Nat → Asn) (j : Nat) (tt : TT) (te : TE) (env : Ev) (kk : List Asn → Prop) : Prop := ∃ Inv : Nat → List Asn → Prop, Inv 0 [] ∧ (∀ (c' : Ct so) i acc, i < n → Inv i acc → LcS c' tt te (env.set j (.v (it i))) acc (Inv (i + 1))) ∧ ∀ acc, Inv n acc → kk acc
def LcL (c : Ct so) (As : List Asn) (j : Nat) (tt : TT) (te : TE) (env : Ev) (kk : List Asn → Prop) : Prop := ∃ Inv : Nat → List Asn → Prop, Inv 0 [] ∧ (∀ (c' : Ct so) i A acc, As[i]? = some A → Inv i acc → LcS c' tt te (env.set j (.v A)) acc (Inv (i + 1))) ∧ ∀ acc, Inv As.length acc → kk acc
theorem lcs_yes {acc : List Asn} {N : List Asn → Prop} (h : E c te env fun r env2 => Z r fun r1 => Fz [r1] env2 fun Bs env3 => ∃ A B, Bs = [A] ∧ Imp A B ∧ env3 = env ∧ acc.length < 16777216 ∧ N (acc ++ [B])) : LcS c tYes te env acc N := t_yes (by rw [if_pos rfl]; exact h)
/-- the state of a comprehension: D is being filled -/
structure Fill (c : Ct so) (S : Hp) (env : Ev) (σ : L2.St) (H : Hp) (D : Addr) (acc : List Asn) : Prop where
  R : Rep c S env σ H
  h : ∃ ys, H D = some (.lst ys) ∧ All S acc ys
  h0 : c.H0 D = none
  hs : S D = none
  hg : c.G D = none
  no : ∀ i, ¬ Own env σ i D
theorem Fill.new {S : Hp} {σ : L2.St} {H : Hp} {D : Addr} (R : Rep c S env σ H) (n : H D = none) : Fill c S env σ (upd H D (.lst [])) D [] := ⟨R.grow (Vb.same_new n), ⟨[], upd_same, trivial⟩, R.frm.none_of n, R.s_none n, R.g_none n, R.not_own n⟩
theorem Fill.done {S : Hp} {σ : L2.St} {H : Hp} {D : Addr} {acc : List Asn} (F : Fill c S env σ H D acc) : ROk c S H env σ (.o (Lc acc)) (.ref D) := by
  obtain ⟨ys, h1, h2⟩ := F.h
  exact ⟨D, _, rfl, h1, ⟨ys, rfl, h2⟩, F.hs, F.h0, F.hg, F.no⟩
theorem Fill.turn {S : Hp} {σ : L2.St} {H : Hp} {D : Addr} {acc : List Asn} {j : Nat} {A : Asn} {x : V} {N : List Asn → Prop} {S0 : Hp} (F : Fill c S env σ H D acc) (e0 : Same S0 S) (no : NoOwn env j) (hx : A.r S x) (h : ∀ c' : Ct so, LcS c' tt te (env.set j (.v A)) acc N) : Vb.LcT tt te D (fun H' => ∃ S' acc', N acc' ∧ Same S0 S' ∧ Fill c S' env σ H' D acc') (σ.set j (some x)) H := by
  obtain ⟨ys, hD, hy⟩ := F.h
  have ro : ∀ {s u i}, (∀ C, s ≠ .o C) → ¬ Own (env.set j s) (σ.set j u) i D := fun {s u i} ns z => by
    rcases z.set with ⟨_, g⟩ | ⟨_, ⟨C, e⟩, _⟩
    · exact F.no i g
    · exact ns C e
  have nv : ∀ C, Sl.v A ≠ .o C := fun C z => by cases z
  have R1 := (F.R.setV j hx).hold hD (fun z => z) F.h0 F.hs (fun i => ro nv)
  refine h (c.hold D (.lst ys)) S _ H _ R1 fun S1 b H1 env1 g1 e1 R2 => ?_
  cases b with
  | false =>
    rw [if_neg (by decide)] at g1 ⊢
    obtain ⟨rfl, g⟩ := g1
    have d := R2.held
    exact ⟨S1, acc, g, e0.trans e1, (F.R.back e1 no nv (R2.unhold F.hg)), ⟨ys, d.1, hy.up e1⟩, F.h0, d.2.2.1, F.hg, F.no⟩
  | true =>
    rw [if_pos rfl] at g1 ⊢
    refine g1 S1 _ H1 _ R2 fun S2 y H2 r env2 g2 e2 R3 q3 => ?_
    obtain ⟨r1, S3, g3, d3, e3, R4, q4⟩ := g2.go R3 q3
    obtain ⟨S4, Bs, env4, ⟨A4, B, rfl, iB, rfl, l, g⟩, e4, R5, q5⟩ := g3.go (xs := [y]) R4 (fun _ => ⟨⟨d3, q4.up d3 (Same.refl S3)⟩, trivial⟩) S3 (Same.refl S3)
    have d := R5.held
    have ee := e1.trans (e2.trans (e3.trans e4))
    have R6 := F.R.back ee no nv (R5.unhold F.hg)
    exact ⟨ys, d.1, by rw [← hy.len]; exact Vb.size_lt l, S4, _, g, e0.trans ee, R6.other F.h0 d.2.2.1 F.hg F.no, ⟨_, upd_same, (hy.up ee).app (All.one (iB _ _ q5.1))⟩, F.h0, d.2.2.1, F.hg, F.no⟩
theorem wipe1 {σ : L2.St} {j : Nat} (x : V) : wipe ((wipe σ [j]).set j (some x)) [j] = wipe σ [j] := by
  show (((σ.set j none).set j (some x)).set j none) = σ.set j none
  rw [List.set_set, List.set_set]
theorem wipe2 {σ : L2.St} {j : Nat} {x : Option V} : (wipe σ [j]).set j x = σ.set j x := List.set_set ..
theorem e_lcL {j : Nat} {us : List Nat} (hu : us = [j]) (h : E c tl env fun r env1 => Z r fun r1 => Fz [r1] env1 fun Bs env2 => ∃ As, Bs = [L As] ∧ NoOwn env2 j ∧ LcL c As j tt te env2 fun acc => k (.o (Lc acc)) env2) : E c (tLc (iList K tl) (gName j) tt te us) env k := fun S σ H Q R z => by
  subst hu
  refine Vb.r_lc (h S σ H _ R fun S1 x H1 r env1 g1 e1 R1 q1 => ?_)
  obtain ⟨r1, S2, g2, d2, e2, R2, q2⟩ := g1.go R1 q1
  obtain ⟨S3, Bs, env3, ⟨As, rfl, no, Inv, i0, is, ie⟩, e3, R3, q3⟩ := g2.go (xs := [x]) R2 (fun _ => ⟨⟨d2, q2.up d2 (Same.refl S2)⟩, trivial⟩) S2 (Same.refl S2)
  obtain ⟨⟨a, xs, rfl, s, g⟩, _⟩ := q3
  have ee := e1.trans (e2.trans e3)
  refine ⟨a, rfl, ⟨xs, Vb.sq_of (R3.sh _ _ s)⟩, fun D nD => ?_⟩
  refine Vb.lcw_list (xs := xs) (fun i H' => ∃ S' acc, Inv i acc ∧ Same S3 S' ∧ Fill c S' env3 σ H' D acc) ⟨S3, [], i0, Same.refl S3, .new R3 nD⟩ wipe1 (fun i H' _ c => ?_) ?_ ?_
  · obtain ⟨S', acc, _, e', F⟩ := c
    exact Vb.sq_of (F.R.sh _ _ (e' _ _ s))
  · rintro i x H' hx ⟨S', acc, hI, e', F⟩
    obtain ⟨A, hA, rA⟩ := g.at_ hx
    rw [wipe2]
    exact F.turn e' no (A.up e' rA) fun c' => is c' i A acc hA hI
  · rintro H' ⟨S', acc, hI, e', F⟩
    exact z S' _ H' _ env3 (ie acc (by rw [g.len]; exact hI)) (ee.trans e') F.R F.done
theorem e_lcT {j : Nat} {us : List Nat} (hu : us = [j]) (h : E c tl env fun r env1 => ∃ As, r = .v (Tu K As) ∧ NoOwn env1 j ∧ LcL c As j tt te env1 fun acc => k (.o (Lc acc)) env1) : E c (tLc (iTup K tl) (gName j) tt te us) env k := fun S σ H Q R z => by
  subst hu
  refine Vb.r_lc (h S σ H _ R fun S3 x H3 r env3 g1 ee R3 q1 => ?_)
  obtain ⟨As, rfl, no, Inv, i0, is, ie⟩ := g1
  obtain ⟨a, xs, rfl, s, g⟩ := q1
  refine ⟨a, rfl, ⟨xs, Vb.sqd R3.sh s⟩, fun D nD => ?_⟩
  refine Vb.lcw_tup (xs := xs) (fun i H' => ∃ S' acc, Inv i acc ∧ Same S3 S' ∧ Fill c S' env3 σ H' D acc) ⟨S3, [], i0, Same.refl S3, .new R3 nD⟩ wipe1 (fun i H' _ c => ?_) ?_ ?_
  · obtain ⟨S', acc, _, e', F⟩ := c
    exact Vb.sqd (e'.trans F.R.sh) s
  · rintro i x H' hx ⟨S', acc, hI, e', F⟩
    obtain ⟨A, hA, rA⟩ := g.at_ hx
    rw [wipe2]
    exact F.turn e' no (A.up e' rA) fun c' => is c' i A acc hA hI
  · rintro H' ⟨S', acc, hI, e', F⟩
    exact z S' _ H' _ env3 (ie acc (by rw [g.len]; exact hI)) (ee.trans e') F.R F.done
theorem lcW_range {n : Nat} {lo : Int} {j : Nat} {S3 S : Hp} {σ : L2.St} {H : Hp} {Q : VK} (h : LcN c n (fun i => I (lo + i)) j tt te env fun acc => k (.o (Lc acc)) env) (no : NoOwn env j) (R : Rep c S3 env σ H) (e : Same S S3) (z : ∀ S' x H' r env', k r env' → Same S S' → Rep c S' env' σ H' → ROk c S' H' env' σ r x → Q x H') : ∀ D, H D = none → Vb.LcW (Itr lo n) (gName j) tt te [j] σ H D fun H' => Q (.ref D) H' := fun D nD => by
  obtain ⟨Inv, i0, is, ie⟩ := h
  refine Vb.lcw_range (fun i H' => ∃ S' acc, Inv i acc ∧ Same S3 S' ∧ Fill c S' env σ H' D acc) ⟨S3, [], i0, Same.refl S3, .new R nD⟩ wipe1 ?_ ?_
  · rintro i H' hi ⟨S', acc, hI, e', F⟩
    rw [wipe2]
    exact F.turn e' no rfl fun c' => is c' i acc hi hI
  · rintro H' ⟨S', acc, hI, e', F⟩
    exact z S' _ H' _ env (ie acc hI) (e.trans e') F.R F.done
theorem e_lc1 {j : Nat} {as : TA} {us : List Nat} (hu : us = [j]) (h : EA c as env fun rs env1 => ∃ n, rs = [.v (I n)] ∧ (-(2 ^ 62) ≤ n ∧ n < 2 ^ 62) ∧ NoOwn env1 j ∧ LcN c n.toNat (fun i => I (0 + i)) j tt te env1 fun acc => k (.o (Lc acc)) env1) : E c (tLc (iRng1 as) (gName j) tt te us) env k := fun S σ H Q R z => by
  subst hu
  refine Vb.r_lc (h S σ H _ R fun S1 xs H1 rs env1 g1 e1 R1 q1 => ?_)
  obtain ⟨n, rfl, hn, no, g2⟩ := g1
  obtain _ | ⟨x, _ | ⟨y, xs⟩⟩ := xs
  · exact q1.elim
  · cases (show x = .int n from q1.1.2)
    exact ⟨n, rfl, hn.1, hn.2, lcW_range g2 no R1 e1 z⟩
  · exact q1.2.elim
theorem e_lc2 {j : Nat} {as : TA} {us : List Nat} (hu : us = [j]) (h : EA c as env fun rs env1 => ∃ lo hi, rs = [.v (I lo), .v (I hi)] ∧ ((-(2 ^ 62) ≤ lo ∧ lo < 2 ^ 62 ∧ -(2 ^ 62) ≤ hi ∧ hi < 2 ^ 62) ∨ hi ≤ lo) ∧ NoOwn env1 j ∧ LcN c (hi - lo).toNat (fun i => I (lo + i)) j tt te env1 fun acc => k (.o (Lc acc)) env1) : E c (tLc (Vb.iRngW as) (gName j) tt te us) env k := fun S σ H Q R z => by
  subst hu
  refine Vb.r_lc (Vb.r_rngW (h S σ H _ R fun S1 xs H1 rs env1 g1 e1 R1 q1 => ?_))
  obtain ⟨lo, hi, rfl, hn, no, g2⟩ := g1
  obtain _ | ⟨x, _ | ⟨y, _ | ⟨w, xs⟩⟩⟩ := xs
  · exact q1.elim
  · exact q1.2.elim
  · cases (show x = .int lo from q1.1.2)
    cases (show y = .int hi from q1.2.1.2)
    exact Vb.c_rngW hn (lcW_range g2 no R1 e1 z)
  · exact q1.2.2.elim
theorem lcN {n : Nat} {it : Nat → Asn} {j : Nat} {kk : List Asn → Prop} (Inv : Nat → List Asn → Prop) (h0 : Inv 0 []) (hs : ∀ (c' : Ct so) i acc, i < n → Inv i acc → LcS c' tt te (env.set j (.v (it i))) acc (Inv (i + 1))) (hd : ∀ acc, Inv n acc → kk acc) : LcN c n it j tt te env kk := ⟨Inv, h0, hs, hd⟩
theorem lcL {As : List Asn} {j : Nat} {kk : List Asn → Prop} (Inv : Nat → List Asn → Prop) (h0 : Inv 0 []) (hs : ∀ (c' : Ct so) i A acc, As[i]? = some A → Inv i acc → LcS c' tt te (env.set j (.v A)) acc (Inv (i + 1))) (hd : ∀ acc, Inv As.length acc → kk acc) : LcL c As j tt te env kk := ⟨Inv, h0, hs, hd⟩
theorem lcM {α : Type} {f : α → Asn} {xs : List α} {j : Nat} {kk : List Asn → Prop} (Inv : Nat → List Asn → Prop) (h0 : Inv 0 []) (hs : ∀ (c' : Ct so) i x acc, xs[i]? = some x → Inv i acc → LcS c' tt te (env.set j (.v (f x))) acc (Inv (i + 1))) (hd : ∀ acc, Inv xs.length acc → kk acc) : LcL c (xs.map f) j tt te env kk := ⟨Inv, h0, fun c' i A acc h q => by
  rw [List.getElem?_map] at h
  cases e : xs[i]? with
  | none => rw [e] at h; cases h
  | some x => rw [e] at h; cases h; exact hs c' i x acc e q, fun acc q => hd acc (by rw [List.length_map] at q; exact q)⟩
theorem Z.imp {r : Rs} {k1 k2 : Rs → Prop} (h : ∀ r, k1 r → k2 r) (q : Z r k1) : Z r k2 := by
  cases r with
  | v A => exact h _ q
  | cp i => exact h _ q
  | o C => obtain ⟨As, e, q⟩ := q; exact ⟨As, e, h _ q⟩
theorem Fz.imp {rs : List Rs} : ∀ {e : Ev} {k1 k2 : List Asn → Ev → Prop}, (∀ a b, k1 a b → k2 a b) → Fz rs e k1 → Fz rs e k2 := by
  induction rs with
  | nil => exact fun h g => h _ _ g
  | cons r rs ih =>
    intro e k1 k2 h g
    cases r with
    | v A => exact ih (k1 := fun As e => k1 (A :: As) e) (k2 := fun As e => k2 (A :: As) e) (fun a b => h _ _) g
    | o C => exact g.elim
    | cp i => exact Or.imp (fun ⟨As, h1, h2⟩ => ⟨As, h1, ih (k1 := fun Bs e => k1 (L As :: Bs) e) (k2 := fun Bs e => k2 (L As :: Bs) e) (fun a b => h _ _) h2⟩) (fun ⟨A, h1, h2⟩ => ⟨A, h1, ih (k1 := fun Bs e => k1 (A :: Bs) e) (k2 := fun Bs e => k2 (A :: Bs) e) (fun a b => h _ _) h2⟩) g
theorem lcs_item {acc : List Asn} {N : List Asn → Prop} {β : Type} {g : β → Asn} {Pr : β → Prop} (h : E c te env fun r env2 => Z r fun r1 => Fz [r1] env2 fun Bs env3 => ∃ y, Bs = [g y] ∧ env3 = env ∧ Pr y) (l : acc.length < 16777216) (q : ∀ y, Pr y → N (acc ++ [g y])) : LcS c tYes te env acc N := lcs_yes (h.imp fun _ _ z => Z.imp (fun _ z => Fz.imp (fun _ _ ⟨y, h1, h2, h3⟩ => ⟨g y, g y, h1, Imp.rfl, h2, l, q y h3⟩) z) z)
theorem snoc_get {α : Type} {xs : List α} {x y : α} {m : Nat} (h : (xs ++ [x])[m]? = some y) : (m < xs.length ∧ xs[m]? = some y) ∨ (m = xs.length ∧ y = x) := by
  by_cases c : m < xs.length
  · rw [List.getElem?_append_left c] at h
    exact .inl ⟨c, h⟩
  · rw [List.getElem?_append_right (by omega)] at h
    have e0 : m - xs.length = 0 := by
      have := (List.getElem?_eq_some_iff.mp h).1
      simp at this
      omega
    rw [e0] at h
    cases h
    exact .inr ⟨by omega, rfl⟩
/-- each item is drawn: what holds of it, by its place -/
theorem lcM_draw {α β : Type} {f : α → Asn} {g : β → Asn} {xs : List α} {j : Nat} {kk : List Asn → Prop} (Pr : Nat → α → β → Prop) (l : xs.length ≤ 16777216) (hs : ∀ (c' : Ct so) (i : Nat) (x : α), xs[i]? = some x → E c' te (env.set j (.v (f x))) fun r env2 => Z r fun r1 => Fz [r1] env2 fun Bs env3 => ∃ y, Bs = [g y] ∧ env3 = env.set j (.v (f x)) ∧ Pr i x y) (hd : ∀ ys : List β, ys.length = xs.length → (∀ (i : Nat) x y, xs[i]? = some x → ys[i]? = some y → Pr i x y) → kk (ys.map g)) : LcL c (xs.map f) j tYes te env kk := by
  refine lcM (fun i acc => ∃ ys : List β, acc = ys.map g ∧ ys.length = i ∧ ∀ (m : Nat) x y, xs[m]? = some x → ys[m]? = some y → Pr m x y) ⟨[], rfl, rfl, fun m x y _ h => by simp at h⟩ ?_ ?_
  · rintro c' i x acc hx ⟨ys, rfl, ly, hy⟩
    have li := (List.getElem?_eq_some_iff.mp hx).1
    refine lcs_item (hs c' i x hx) (by rw [List.length_map]; omega) fun y h3 => ⟨ys ++ [y], by rw [List.map_append]; rfl, by rw [List.length_append, ly]; rfl, fun m x' y' hm hy' => ?_⟩
    rcases snoc_get hy' with ⟨_, h⟩ | ⟨h, rfl⟩
    · exact hy m x' y' hm h
    · obtain rfl : m = i := by omega
      rw [hx] at hm
      cases hm
      exact h3
  · rintro acc ⟨ys, rfl, ly, hy⟩
    exact hd ys ly hy
theorem lcN_draw {β : Type} {g : β → Asn} {n : Nat} {it : Nat → Asn} {j : Nat} {kk : List Asn → Prop} (Pr : Nat → β → Prop) (l : n ≤ 16777216) (hs : ∀ (c' : Ct so) i, i < n → E c' te (env.set j (.v (it i))) fun r env2 => Z r fun r1 => Fz [r1] env2 fun Bs env3 => ∃ y, Bs = [g y] ∧ env3 = env.set j (.v (it i)) ∧ Pr i y) (hd : ∀ ys : List β, ys.length = n → (∀ (i : Nat) y, ys[i]? = some y → Pr i y) → kk (ys.map g)) : LcN c n it j tYes te env kk := by
  refine lcN (fun i acc => ∃ ys : List β, acc = ys.map g ∧ ys.length = i ∧ ∀ (m : Nat) y, ys[m]? = some y → Pr m y) ⟨[], rfl, rfl, fun m y h => by simp at h⟩ ?_ ?_
  · rintro c' i acc hi ⟨ys, rfl, ly, hy⟩
    refine lcs_item (hs c' i hi) (by rw [List.length_map]; omega) fun y h3 => ⟨ys ++ [y], by rw [List.map_append]; rfl, by rw [List.length_append, ly]; rfl, fun m y' hy' => ?_⟩
    rcases snoc_get hy' with ⟨_, h⟩ | ⟨h, rfl⟩
    · exact hy m y' h
    · obtain rfl : m = i := by omega
      exact h3
  · rintro acc ⟨ys, rfl, ly, hy⟩
    exact hd ys ly hy
/-- each item is made of the one that is there -/
theorem lcM_map {α : Type} {f g : α → Asn} {xs : List α} {j : Nat} {kk : List Asn → Prop} (l : xs.length ≤ 16777216) (hs : ∀ (c' : Ct so) (i : Nat) (x : α), xs[i]? = some x → E c' te (env.set j (.v (f x))) fun r env2 => Z r fun r1 => Fz [r1] env2 fun Bs env3 => Bs = [g x] ∧ env3 = env.set j (.v (f x))) (hd : kk (xs.map g)) : LcL c (xs.map f) j tYes te env kk := by
  refine lcM (fun i acc => acc = (xs.take i).map g) rfl ?_ ?_
  · rintro c' i x acc hx rfl
    have li := (List.getElem?_eq_some_iff.mp hx).1
    refine lcs_yes ((hs c' i x hx).imp fun _ _ z => Z.imp (fun _ z => Fz.imp (fun _ _ ⟨h1, h2⟩ => ⟨g x, g x, h1, Imp.rfl, h2, by rw [List.length_map, List.length_take]; omega, ?_⟩) z) z)
    rw [List.take_add_one, hx, List.map_append]
    rfl
  · rintro acc rfl
    rw [List.take_length]
    exact hd
theorem lcN_map {n : Nat} {it g : Nat → Asn} {j : Nat} {kk : List Asn → Prop} (l : n ≤ 16777216) (hs : ∀ (c' : Ct so) i, i < n → E c' te (env.set j (.v (it i))) fun r env2 => Z r fun r1 => Fz [r1] env2 fun Bs env3 => Bs = [g i] ∧ env3 = env.set j (.v (it i))) (hd : kk ((List.range n).map g)) : LcN c n it j tYes te env kk := by
  refine lcN (fun i acc => acc = (List.range i).map g) rfl ?_ ?_
  · rintro c' i acc hi rfl
    refine lcs_yes ((hs c' i hi).imp fun _ _ z => Z.imp (fun _ z => Fz.imp (fun _ _ ⟨h1, h2⟩ => ⟨g i, g i, h1, Imp.rfl, h2, by rw [List.length_map, List.length_range]; omega, ?_⟩) z) z)
    rw [List.range_succ, List.map_append]
    rfl
  · rintro acc rfl
    exact hd
end
end Pu
namespace Pu
open PySem PySem.Spec PyProof.Rows L2
section
variable {so : Option Addr} {c : Ct so} {K : PySem.W.Frag} {env : Ev} {k : Rs → Ev → Prop} {te ta tb tl : TE} {t : TA} {nx : Ev → Prop} {rt : Rs → Prop} {bk ct : Ev → Prop}
/-! ### objects -/
/-- an object of the class at C with these attributes -/
def Ob (C : Addr) (fs : List (Str × Asn)) : Asn := ⟨fun S v => ∃ a dx gs, v = .ref a ∧ S a = some (.ins C dx gs) ∧ gs.map Prod.fst = fs.map Prod.fst ∧ All S (fs.map Prod.snd) (gs.map Prod.snd), fun e ⟨a, dx, gs, h, g, n, q⟩ => ⟨a, dx, gs, h, e _ _ g, n, q.up e⟩⟩
/-- A says that the value is an object of the class at C with (at least) the attribute f, of which B holds -/
class Fld (A : Asn) (C : outParam Addr) (f : Str) (B : outParam Asn) : Prop where
  g : ∀ S v, A.r S v → ∃ a dx gs x, v = .ref a ∧ S a = some (.ins C dx gs) ∧ gs.lookup f = some x ∧ B.r S x
/-- .. an object of the class at C without an attribute m -/
class Ins (A : Asn) (C : outParam Addr) : Prop where
  g : ∀ S v, A.r S v → ∃ a dx gs, v = .ref a ∧ S a = some (.ins C dx gs)
class NoM (A : Asn) (C : outParam Addr) (m : Str) : Prop where
  g : ∀ S v, A.r S v → ∃ a dx gs, v = .ref a ∧ S a = some (.ins C dx gs) ∧ gs.lookup m = none
theorem lookup_all {S : Hp} {f : Str} {B : Asn} : ∀ {fs : List (Str × Asn)} {gs : List (Str × V)}, gs.map Prod.fst = fs.map Prod.fst → All S (fs.map Prod.snd) (gs.map Prod.snd) → fs.lookup f = some B → ∃ x, gs.lookup f = some x ∧ B.r S x
  | [], _, _, _, h => by cases h
  | _ :: _, [], h, _, _ => by cases h
  | (n, A) :: fs, (m, x) :: gs, h1, h2, h3 => by
    obtain ⟨rfl, h4⟩ : m = n ∧ gs.map Prod.fst = fs.map Prod.fst := by
      simp only [List.map_cons, List.cons.injEq] at h1
      exact h1
    rw [List.lookup_cons] at h3 ⊢
    cases z : f == m with
    | true =>
      rw [z] at h3
      cases h3
      exact ⟨x, rfl, h2.1⟩
    | false =>
      rw [z] at h3
      exact lookup_all h4 h2.2 h3
theorem lookup_no {m : Str} : ∀ {ks : List Str} {gs : List (Str × V)}, gs.map Prod.fst = ks → ks.contains m = false → gs.lookup m = none
  | _, [], _, _ => rfl
  | _, (n, x) :: gs, h, q => by
    subst h
    rw [List.map_cons, List.contains_cons, Bool.or_eq_false_iff] at q
    rw [List.lookup_cons, q.1]
    exact lookup_no rfl q.2
theorem fld_ob {C : Addr} {fs : List (Str × Asn)} {f : Str} {B : Asn} (h : fs.lookup f = some B) : Fld (Ob C fs) C f B := ⟨fun S v ⟨a, dx, gs, e, s, n, q⟩ => by
  obtain ⟨x, h1, h2⟩ := lookup_all n q h
  exact ⟨a, dx, gs, x, e, s, h1, h2⟩⟩
instance {C : Addr} {fs : List (Str × Asn)} : Ins (Ob C fs) C := ⟨fun S v ⟨a, dx, gs, e, s, _⟩ => ⟨a, dx, gs, e, s⟩⟩
theorem nom_ob {C : Addr} {fs : List (Str × Asn)} {m : Str} (h : (fs.map Prod.fst).contains m = false) : NoM (Ob C fs) C m := ⟨fun S v ⟨a, dx, gs, e, s, n, q⟩ => ⟨a, dx, gs, e, s, lookup_no n h⟩⟩
instance {C : Addr} {fs : List (Str × Asn)} [b : NLs (fs.map Prod.snd)] : NL (Ob C fs) := ⟨fun k ⟨a, dx, gs, e, s, n, q⟩ => ⟨a, dx, gs, e, k _ _ s trivial, n, b.nl k q⟩⟩
instance {C : Addr} {fs : List (Str × Asn)} : NoN (Ob C fs) := ⟨fun _ _ ⟨_, _, _, h, _⟩ z => by rw [h] at z; cases z⟩
theorem e_fld {f : Str} (h : E c te env fun r env1 => ∃ A B C, r = .v A ∧ Fld A C f B ∧ Cls K C ∧ PySem.W.findIn K (.ref C) f = some none ∧ k (.v B) env1) : E c (tFld K te f) env k := fun S σ H Q R z => by
  refine h S σ H _ R fun S1 x H1 r env1 g1 e1 R1 q1 => ?_
  obtain ⟨A, B, C, rfl, F, hc, hn, g⟩ := g1
  obtain ⟨a, dx, gs, y, rfl, s, l, q⟩ := F.g S1 x q1
  exact ⟨a, C, dx, gs, y, rfl, R1.sh _ _ s, hc, hn, l, z S1 y H1 _ env1 g e1 R1 q⟩
theorem q_fld {A B : Asn} {C : Addr} {f : Str} {Pf : Asn → Prop} (F : Fld A C f B) (hc : Cls K C) (hn : PySem.W.findIn K (.ref C) f = some none) (q : Pf B) : ∃ A' B' C', Rs.v A = .v A' ∧ Fld A' C' f B' ∧ Cls K C' ∧ PySem.W.findIn K (.ref C') f = some none ∧ Pf B' := ⟨A, B, C, rfl, F, hc, hn, q⟩
/-- o.m(..) -/
theorem e_meth {C : Addr} {m : Str} {φ : PSp} {X : XE} {Ex : L2.St → XK} (hx : ExOk c X Ex) (h : E c te env fun r env1 => ∃ A, r = .v A ∧ NoM A C m ∧ EA c t env1 fun rs env2 => Cl φ (.v A :: rs) env2 k X) : E c (Vb.tMethP C m (toSp φ) Ex te t) env k := fun S σ H Q R z => by
  refine h S σ H _ R fun S1 x H1 r env1 g1 e1 R1 q1 => ?_
  obtain ⟨A, rfl, F, g⟩ := g1
  obtain ⟨a, dx, gs, rfl, s, l⟩ := F.g S1 x q1
  refine ⟨a, dx, gs, rfl, R1.sh _ _ s, l, ?_⟩
  refine g S1 σ H1 _ R1 fun S2 xs H2 rs env2 g2 e2 R2 q2 => ?_
  exact Core.none R2.stf (g2.go hx R2 ⟨⟨trivial, A.up e2 q1⟩, q2⟩ fun S' x H' r env' g e => z S' x H' r env' g (e1.trans (e2.trans e)))
/-- a op b by the own def -/
theorem e_binP {C : Addr} {φ : PSp} {X : XE} {Ex : L2.St → XK} (hx : ExOk c X Ex) (h : E c ta env fun r env1 => ∃ A, r = .v A ∧ Ins A C ∧ E c tb env1 fun s env2 => ∃ B, s = .v B ∧ Ins B C ∧ Cl φ [.v A, .v B] env2 (fun r e => (∃ A C, r = .v A ∧ Ins A C) ∧ k r e) X) : E c (Vb.tBinP C (toSp φ) Ex ta tb) env k := fun S σ H Q R z => by
  refine h S σ H _ R fun S1 x H1 r env1 g1 e1 R1 q1 => ?_
  obtain ⟨A, rfl, F, g⟩ := g1
  refine g S1 σ H1 _ R1 fun S2 y H2 s env2 g2 e2 R2 q2 => ?_
  obtain ⟨B, rfl, F2, g⟩ := g2
  have q1' := A.up e2 q1
  obtain ⟨a, dx, gs, rfl, s1⟩ := F.g S2 x q1'
  obtain ⟨b, dy, fs, rfl, s2⟩ := F2.g S2 y q2
  refine ⟨a, b, dx, dy, gs, fs, rfl, rfl, R2.sh _ _ s1, R2.sh _ _ s2, ?_⟩
  exact Core.none R2.stf (g.go hx R2 ⟨⟨trivial, q1'⟩, ⟨trivial, q2⟩, trivial⟩ fun S' x H' r env' g e R' q => by
    obtain ⟨⟨A', C', rfl, F'⟩, g⟩ := g
    obtain ⟨d, _, _, rfl, _⟩ := F'.g S' x q
    exact ⟨d, rfl, z S' _ H' _ env' g (e1.trans (e2.trans e)) R' q⟩)
theorem e_negP {C : Addr} {φ : PSp} {X : XE} {Ex : L2.St → XK} (hx : ExOk c X Ex) (h : E c ta env fun r env1 => ∃ A, r = .v A ∧ Ins A C ∧ Cl φ [.v A] env1 k X) : E c (Vb.tNegP C (toSp φ) Ex ta) env k := fun S σ H Q R z => by
  refine h S σ H _ R fun S1 x H1 r env1 g1 e1 R1 q1 => ?_
  obtain ⟨A, rfl, F, g⟩ := g1
  obtain ⟨a, dx, gs, rfl, s1⟩ := F.g S1 x q1
  refine ⟨a, dx, gs, rfl, R1.sh _ _ s1, ?_⟩
  exact Core.none R1.stf (g.go hx R1 ⟨⟨trivial, q1⟩, trivial⟩ fun S' x H' r env' g e => z S' x H' r env' g (e1.trans e))
theorem e_prop {C : Addr} {φ : PSp} {Ex : XK} (h : E c te env fun r env1 => ∃ A, r = .v A ∧ Ins A C ∧ Cl φ [.v A] env1 k fun _ _ _ => False) : E c (tProp C (toSp φ) [] Ex te) env k := fun S σ H Q R z => by
  refine h S σ H _ R fun S1 x H1 r env1 g1 e1 R1 q1 => ?_
  obtain ⟨A, rfl, F, g⟩ := g1
  obtain ⟨a, dx, gs, rfl, s1⟩ := F.g S1 x q1
  refine ⟨a, dx, gs, rfl, R1.sh _ _ s1, ?_⟩
  exact Core.none R1.stf (g.go (Ex := fun _ => Ex) ExOk.none R1 ⟨⟨trivial, q1⟩, trivial⟩ fun S' x H' r env' g e => z S' x H' r env' g (e1.trans e))
/-! ### makers -/
/-- what is asked of an __init__'s promise -/
def MkBr (C : Addr) (sp : Sp) (φ : PSp) : Prop := ∀ vs H Q E, Core none φ vs H Q E → ∀ x dx, H x = none → H dx = none → dx ≠ x → sp (.ref x :: vs) (upd (upd H dx (.own x)) x (.ins C dx [])) (fun v H2 => v = .non ∧ Q (.ref x) H2) E
theorem e_make {C : Addr} {sp : Sp} {φ : PSp} {X : XE} {Ex : L2.St → XK} (hb : MkBr C sp φ) (hx : ExOk c X Ex) (h : EA c t env fun rs env1 => Cl φ rs env1 k X) : E c (Vb.tMakeP C sp Ex t) env k := fun S σ H Q R z => by
  refine h S σ H _ R fun S1 xs H1 rs env1 g1 e1 R1 q1 => ?_
  exact hb _ _ _ _ (Core.none R1.stf (g1.go hx R1 q1 fun S' x H' r env' g e => z S' x H' r env' g (e1.trans e)))
/-- the content of an object that is being made -/
def Ic (C dx y : Addr) (fs : List (Str × Asn)) : Cn := ⟨fun S a o => a = y ∧ ∃ gs, o = .ins C dx gs ∧ gs.map Prod.fst = fs.map Prod.fst ∧ All S (fs.map Prod.snd) (gs.map Prod.snd), fun e ⟨ha, gs, h, n, q⟩ => ⟨ha, gs, h, n, q.up e⟩, fun ⟨_, gs, h, _⟩ z => by rw [h] at z; exact z⟩
def putA (f : Str) (A : Asn) : List (Str × Asn) → List (Str × Asn)
  | [] => [(f, A)]
  | (g, B) :: r => if g = f then (g, A) :: r else (g, B) :: putA f A r
theorem put_names {f : Str} {A : Asn} {x : V} : ∀ {fs : List (Str × Asn)} {gs : List (Str × V)}, gs.map Prod.fst = fs.map Prod.fst → (putF f x gs).map Prod.fst = (putA f A fs).map Prod.fst
  | [], [], _ => rfl
  | [], _ :: _, h => by cases h
  | _ :: _, [], h => by cases h
  | (n, B) :: fs, (m, y) :: gs, h => by
    simp only [List.map_cons, List.cons.injEq] at h
    obtain ⟨rfl, h⟩ := h
    unfold putF putA
    split
    · simp only [List.map_cons, h]
    · rw [List.map_cons, List.map_cons, put_names h]
theorem put_all {S : Hp} {f : Str} {A : Asn} {x : V} (hA : A.r S x) : ∀ {fs : List (Str × Asn)} {gs : List (Str × V)}, gs.map Prod.fst = fs.map Prod.fst → All S (fs.map Prod.snd) (gs.map Prod.snd) → All S ((putA f A fs).map Prod.snd) ((putF f x gs).map Prod.snd)
  | [], [], _, _ => ⟨hA, trivial⟩
  | [], _ :: _, h, _ => by cases h
  | _ :: _, [], h, _ => by cases h
  | (n, B) :: fs, (m, y) :: gs, h, q => by
    simp only [List.map_cons, List.cons.injEq] at h
    obtain ⟨rfl, h⟩ := h
    unfold putF putA
    split
    · exact ⟨hA, q.2⟩
    · exact ⟨q.1, put_all hA h q.2⟩
/-- self.f = e, within __init__ -/
theorem w_sfld {i : Nat} {f : Str} {C dx y : Addr} {fs0 : List (Str × Asn)} (hc : Cls K C) (hn : PySem.W.findIn K (.ref C) f = some none) (h : E c te env fun r env1 => Z r fun r1 => Fz [r1] env1 fun Bs env2 => ∃ A fs, Bs = [A] ∧ env2[i]? = some (.o (Ic C dx y fs)) ∧ fs.length < 1000 ∧ nx (env2.set i (.o (Ic C dx y (putA f A fs))))) : W c (sFld K (tVar i) te f) env ⟨nx, rt, bk, ct⟩ := fun S σ H d R e => by
  refine h S σ H _ R fun S1 x H1 r env1 g1 e1 R1 q1 => ?_
  obtain ⟨r1, S2, g2, d2, e2, R2, q2⟩ := g1.go R1 q1
  obtain ⟨S3, Bs, env3, ⟨A, fs, rfl, h0, l, g3⟩, e3, R3, q3⟩ := g2.go (xs := [x]) R2 (fun _ => ⟨⟨d2, q2.up d2 (Same.refl S2)⟩, trivial⟩) S2 (Same.refl S2)
  obtain ⟨a, ob, ow, h1, h2, ha, gs, rfl, n, q⟩ := R3.own h0
  have ln : gs.length = fs.length := by rw [← List.length_map (f := Prod.fst), n, List.length_map]
  refine ⟨_, h1, a, C, dx, gs, rfl, h2, hc, hn, by omega, ?_⟩
  exact e.nx S3 _ _ _ g3 (e1.trans (e2.trans e3)) (R3.mut h0 h1 (C' := Ic C dx y (putA f A fs)) ⟨ha, _, rfl, put_names n, put_all q3.1 n q⟩)
/-- self.f, within __init__ -/
theorem e_fldO {i : Nat} {f : Str} {C dx y : Addr} {fs : List (Str × Asn)} {B : Asn} (hc : Cls K C) (hn : PySem.W.findIn K (.ref C) f = some none) (h0 : env[i]? = some (.o (Ic C dx y fs))) (l : fs.lookup f = some B) (q : k (.v B) env) : E c (tFld K (tVar i) f) env k := fun S σ H Q R z => by
  obtain ⟨a, ob, ow, h1, h2, ha, gs, rfl, n, g⟩ := R.own h0
  obtain ⟨y, l1, l2⟩ := lookup_all n g l
  exact ⟨_, h1, a, C, dx, gs, y, rfl, h2, hc, hn, l1, z S y H _ env q (Same.refl S) R l2⟩
abbrev PSi := List Asn → (List (Str × Asn) → Prop) → XP → Prop
def toSpI (C : Addr) (φ : PSi) : Sp := fun vs H Q E => ∃ x dx us B As kk X, vs = .ref x :: us ∧ H x = some (.ins C dx []) ∧ φ As kk X ∧ Same B H ∧ B x = none ∧ All B As us ∧
  (∀ S fs gs H', kk fs → (∀ b o, b ≠ x → H b = some o → H' b = some o) → Same B S → Same S H' → (∀ b o, S b = some o → B b = some o ∨ H b = none ∨ Fix o) → S x = none → H' x = some (.ins C dx gs) → gs.map Prod.fst = fs.map Prod.fst → All S (fs.map Prod.snd) (gs.map Prod.snd) → Q .non H') ∧
  ∀ D fs d S H', X D fs → (∀ b o, b ≠ x → H b = some o → H' b = some o) → Same B S → Same S H' → (∀ b o, S b = some o → B b = some o ∨ H b = none ∨ b = x ∨ Fix o) → Er S d fs → E (.ref D) d H'
theorem mkbr_I {C : Addr} {φ : PSi} : MkBr C (toSpI C φ) fun As k X => φ As (fun fs => k (.v (Ob C fs))) X := by
  rintro vs H Q E ⟨B, As, k, X, p, b, a, _, q1, q2⟩ x dx nx nd ne
  have e2 : Same H (upd (upd H dx (.own x)) x (.ins C dx [])) := fun b o h => by
    rw [upd_ne (ne_of_none h nx), upd_ne (ne_of_none h nd)]
    exact h
  have bx : B x = none := by
    cases y : B x with
    | none => rfl
    | some o => have := b x o y; rw [nx] at this; cases this
  have k2 : ∀ {H' : Hp}, (∀ b o, b ≠ x → (upd (upd H dx (.own x)) x (.ins C dx [])) b = some o → H' b = some o) → Same H H' := fun {H'} g b o h => g b o (ne_of_none h nx) (e2 b o h)
  have nw : ∀ {S : Hp}, (∀ b o, S b = some o → B b = some o ∨ (upd (upd H dx (.own x)) x (.ins C dx [])) b = none ∨ Fix o) → ∀ b o, S b = some o → B b = some o ∨ H b = none ∨ Fix o := fun {S} n b o h => (n b o h).imp id fun g => g.imp (fun g => by
    by_cases z1 : b = x
    · rw [z1]; exact nx
    · by_cases z2 : b = dx
      · rw [z2]; exact nd
      · rw [upd_ne z1, upd_ne z2] at g; exact g) id
  refine ⟨x, dx, vs, B, As, _, X, rfl, upd_same, p, b.trans e2, bx, a, fun S fs gs H' hk kp sb sh n sx hx hn hq => ⟨rfl, ?_⟩, fun D fs d S H' hX kp sb sh n er => q2 D fs d S H' hX ⟨Frm.of_same (k2 kp), sb, sh, fun b o h => (n b o h).imp id fun g => g.elim (fun g => .inl (by
    by_cases z1 : b = x
    · rw [z1]; exact nx
    · by_cases z2 : b = dx
      · rw [z2]; exact nd
      · rw [upd_ne z1, upd_ne z2] at g; exact g)) fun g => g.elim (fun z => .inl (by rw [z]; exact nx)) .inr⟩ er⟩
  have es := Vb.same_new (o := .ins C dx gs) sx
  refine q1 (upd S x (.ins C dx gs)) _ (.ref x) H' hk ⟨Frm.of_same (k2 kp), sb.trans es, fun b o h => ?_, fun b o h => ?_⟩ ⟨x, dx, gs, rfl, upd_same, hn, hq.up es⟩
  · by_cases z : b = x
    · subst z; rw [upd_same] at h; rw [hx]; exact h
    · rw [upd_ne z] at h; exact sh b o h
  · by_cases z : b = x
    · rw [z]; exact .inr (.inl nx)
    · rw [upd_ne z] at h; exact nw n b o h
end
/-! ### errors -/
section
variable {so : Option Addr} {c : Ct so} {K : PySem.W.Frag} {env : Ev} {k : Rs → Ev → Prop} {te ta tb tl : TE} {t : TA} {nx : Ev → Prop} {rt : Rs → Prop} {bk ct : Ev → Prop}
def tRaise (W : WX) (t : L2.St → Hp → XK → Prop) : TS := fun _ σ H => t σ H fun cls d H' => W cls d σ H'
def tMk0 (C : Addr) : L2.St → Hp → XK → Prop := fun _ H Q => Q (.ref C) none H
theorem pmk0 {X : Cx} {x : Str} {C : Addr} {p pos : Pos} (T : Vb.Xn X.K X.mg x C) (hg : Gl X x) (hdb : (x == ("__debug__" : Str)) = false := by decide) : L2N.PMk X (.Call (.Name x p) [] [] pos) (tMk0 C) := Vb.pmk0 T hg hdb
theorem ps_raise {X : Cx} {W : WX} {e : Expr} {t : L2.St → Hp → XK → Prop} {pos : Pos} (hc : X.calm = true) (tk : L2N.Takes X W) (he : L2N.PMk X e t) : PS X (.Raise (some e) none pos) (tRaise W t) := L2N.ps_raise hc tk he
theorem w_raise0 {W0 : WX} {X : XE} {C : Addr} (hx : ExOk c X (fun σ cls d H => W0 cls d σ H)) (q : X env C []) : W c (tRaise W0 (tMk0 C)) env ⟨nx, rt, bk, ct⟩ := fun S σ H d R e => hx S env σ H C [] none q R (.inl ⟨rfl, rfl⟩)
theorem w_raise1 {W0 : WX} {X : XE} {C : Addr} (hx : ExOk c X (fun σ cls d H => W0 cls d σ H)) (h : EA c t env fun rs env1 => Fz rs env1 fun As env2 => ∃ A, As = [A] ∧ X env2 C [("value", A)]) : W c (tRaise W0 (L2.tMkvalue C t)) env ⟨nx, rt, bk, ct⟩ := fun S σ H d R e => by
  refine h S σ H _ R fun S1 xs H1 rs env1 g1 e1 R1 q1 => ?_
  obtain ⟨S2, As, env2, ⟨A, rfl, g2⟩, e2, R2, q2⟩ := g1.go R1 (fun _ => q1.any) S1 (Same.refl S1)
  obtain _ | ⟨x, _ | ⟨y, xs⟩⟩ := xs
  · exact q2.elim
  · refine ⟨x, rfl, fun dd nd => ?_⟩
    have es := Vb.same_new (o := .xd [("value", x)]) (R2.s_none nd)
    exact hx _ env2 σ _ C _ (some dd) g2 (R2.new nd) (.inr ⟨dd, _, rfl, upd_same, rfl, A.up es q2.1, trivial⟩)
  · exact q2.2.elim
/-- the error that is being handled: its object, its dict -/
def Ea (a : Addr) (d : Option Addr) (fs : List (Str × Asn)) : Asn := ⟨fun S v => v = .ref a ∧ Er S d fs, fun e ⟨h, g⟩ => ⟨h, g.up e⟩⟩
abbrev Hdl := Value × Nat × (Addr → Value → Option Addr → TS)
def tTry (K : PySem.W.Frag) (Wo : WX) (tb : WX → TS) (l : List Hdl) : TS := fun D σ H => tb (Vb.wAll K Wo D l) D σ H
/-- what the clauses do with an error -/
def Hs (c : Ct so) (K : PySem.W.Frag) (XO : XE) (P : PEnds) : List Hdl → XE
  | [] => XO
  | (v, i, ts) :: r => fun env C fs => ∃ b, PySem.W.exmOne K (.ref C) v = some b ∧ (b = true → ∀ a d, W c (ts a (.ref C) d) (env.set i (.v (Ea a d fs))) ⟨fun e => P.nx (e.set i .un), P.rt, fun e => P.bk (e.set i .un), fun e => P.ct (e.set i .un)⟩) ∧ (b = false → Hs c K XO P r env C fs)
theorem hs_as {XO : XE} {C : Addr} {i : Nat} {ts : Addr → Value → Option Addr → TS} {r : List Hdl} {fs : List (Str × Asn)} (h : Vb.Xk K C) (q : ∀ a d, W c (ts a (.ref C) d) (env.set i (.v (Ea a d fs))) ⟨fun e => nx (e.set i .un), rt, fun e => bk (e.set i .un), fun e => ct (e.set i .un)⟩) : Hs c K XO ⟨nx, rt, bk, ct⟩ ((.ref C, i, ts) :: r) env C fs := ⟨true, h.ex, fun _ => q, fun z => Bool.noConfusion z⟩
theorem hs_sub {XO : XE} {C D : Addr} {i : Nat} {ts : Addr → Value → Option Addr → TS} {r : List Hdl} {fs : List (Str × Asn)} (h : Vb.Xk K C) (s : PySem.W.subIn K (.ref D) (.ref C) = some true) (q : ∀ a d, W c (ts a (.ref D) d) (env.set i (.v (Ea a d fs))) ⟨fun e => nx (e.set i .un), rt, fun e => bk (e.set i .un), fun e => ct (e.set i .un)⟩) : Hs c K XO ⟨nx, rt, bk, ct⟩ ((.ref C, i, ts) :: r) env D fs := ⟨true, PySem.W.exm_ref h.sb h.hd h.ty s, fun _ => q, fun z => Bool.noConfusion z⟩
theorem hs_no {XO : XE} {C D : Addr} {i : Nat} {ts : Addr → Value → Option Addr → TS} {r : List Hdl} {fs : List (Str × Asn)} (h : Vb.Xk K C) (s : PySem.W.subIn K (.ref D) (.ref C) = some false) (q : Hs c K XO ⟨nx, rt, bk, ct⟩ r env D fs) : Hs c K XO ⟨nx, rt, bk, ct⟩ ((.ref C, i, ts) :: r) env D fs := ⟨false, h.no s, fun z => Bool.noConfusion z, fun _ => q⟩
theorem hs_out {XO : XE} {C : Addr} {fs : List (Str × Asn)} (q : XO env C fs) : Hs c K XO ⟨nx, rt, bk, ct⟩ [] env C fs := q
def Ct.from (c : Ct so) (S : Hp) : Ct so := { c with B := S }
theorem Rep.from {S : Hp} {σ : L2.St} {H : Hp} (R : Rep c S env σ H) : Rep (c.from S) S env σ H := ⟨R.frm, Same.refl S, R.sh, fun _ _ h => .inl h, R.sf, R.len, R.s0, R.sl, R.dj, R.fr, R.gh⟩
theorem Rep.unfrom {S S' : Hp} {env' : Ev} {σ σ' : L2.St} {H H' : Hp} (R0 : Rep c S env σ H) (R : Rep (c.from S) S' env' σ' H') : Same S S' ∧ Rep c S' env' σ' H' := ⟨R.bs, R.frm, R0.bs.trans R.bs, R.sh, fun b o h => (R.nw b o h).elim (fun g => R0.nw b o g) .inr, R.sf, R.len, R.s0, R.sl, R.dj, R.fr, R.gh⟩
theorem w_try {Wo : WX} {tb : WX → TS} {l : List Hdl} {XO : XE} (hO : ExOk c XO (fun σ cls d H => Wo cls d σ H)) (h : ∀ (c' : Ct so) (Wi : WX), ExOk c' (Hs c K XO ⟨nx, rt, bk, ct⟩ l) (fun σ cls d H => Wi cls d σ H) → W c' (tb Wi) env ⟨nx, rt, bk, ct⟩) : W c (tTry K Wo tb l) env ⟨nx, rt, bk, ct⟩ := fun S σ H D R e => by
  refine h (c.from S) (Vb.wAll K Wo D l) (fun S' env' σ' H' C fs d hX R' er => ?_) S σ H D R.from ⟨fun S' env' σ' H' p q R' => e.nx S' env' σ' H' p q (R.unfrom R').2, fun S' env' σ' H' r x p q R' w => e.rt S' env' σ' H' r x p q (R.unfrom R').2 (by cases r <;> exact w), fun S' env' σ' H' p q R' => e.bk S' env' σ' H' p q (R.unfrom R').2, fun S' env' σ' H' p q R' => e.ct S' env' σ' H' p q (R.unfrom R').2⟩
  obtain ⟨eS, R2⟩ := R.unfrom R'
  clear h
  induction l with
  | nil => exact hO S' env' σ' H' C fs d hX R2 er
  | cons x r ih =>
    obtain ⟨v, i, ts⟩ := x
    obtain ⟨b, h1, h2, h3⟩ := hX
    refine ⟨b, h1, fun hb a na => ?_, fun hb => ih (h3 hb)⟩
    have R3 := R2.setV i (A := Ea a d fs) ⟨rfl, er⟩
    refine h2 hb a d S' _ H' _ R3 ⟨fun S4 env4 σ4 H4 p q R4 => e.nx S4 _ _ H4 p (eS.trans q) (R4.setU i none), fun S4 env4 σ4 H4 r x p q R4 w => e.rt S4 env4 σ4 H4 r x p (eS.trans q) R4 w, fun S4 env4 σ4 H4 p q R4 => e.bk S4 _ _ H4 p (eS.trans q) (R4.setU i none), fun S4 env4 σ4 H4 p q R4 => e.ct S4 _ _ H4 p (eS.trans q) (R4.setU i none)⟩
theorem ps_try {X : Cx} {body : List Stmt} {c0 : ExceptHandler} {cs : List ExceptHandler} {l : List Hdl} {pos : Pos} {tb : WX → TS} {Wo : WX} (st : X.stack = X.env :: X.outer) (fr : X.env.frame = some X.env.locals) (nd : X.N.Nodup) (tk : L2N.Takes X Wo)
    (hb : ∀ (W : WX) (pn : List (Addr × Obj)) (xe : Value → Shared → Prop), L2N.Takes (X.tr pn xe) W → PassesOwn (model X.prog X.w) X.A X.env xe → PSs (X.tr pn xe) body (tb W))
    (hh : Vb.Clauses X (c0 :: cs) l) : PS X (.Try body (c0 :: cs) [] [] pos) (tTry X.K Wo tb l) := Vb.ps_try_all st fr nd tk hb hh
theorem e_xf {a C : Addr} {d : Option Addr} {f : Str} (h : E c te env fun r env1 => ∃ fs A, r = .v (Ea a d fs) ∧ fs.lookup f = some A ∧ k (.v A) env1) : E c (tXf a (.ref C) d C f te) env k := fun S σ H Q R z => by
  refine h S σ H _ R fun S1 x H1 r env1 g1 e1 R1 q1 => ?_
  obtain ⟨fs, A, rfl, l, g⟩ := g1
  obtain ⟨rfl, er⟩ := q1
  refine ⟨rfl, rfl, ?_⟩
  rcases er with ⟨_, rfl⟩ | ⟨dd, gs, rfl, h2, h3, h4⟩
  · cases l
  · obtain ⟨y, l1, l2⟩ := lookup_all h3 h4 l
    exact ⟨dd, gs, y, rfl, R1.sh _ _ h2, l1, z S1 y H1 _ env1 g e1 R1 l2⟩
theorem q_ea {a : Addr} {d : Option Addr} {fs : List (Str × Asn)} {f : Str} {A : Asn} {Pf : Asn → Prop} (l : fs.lookup f = some A) (q : Pf A) : ∃ fs' A', Rs.v (Ea a d fs) = .v (Ea a d fs') ∧ fs'.lookup f = some A' ∧ Pf A' := ⟨fs, A, rfl, l, q⟩
theorem r_isX {a D C' : Addr} {d : Option Addr} {fs : List (Str × Asn)} {b : Bool} (e : PySem.W.kitOne K (.ref D) (.ref C') = some b) (q : k (.v (Bo b)) env) : RL c (Vb.rIsX K D a (.ref D) d) [.v (Ea a d fs), .v (Vl (.ref C'))] env k := fun S σ H xs Q R qs z => by
  obtain _ | ⟨x', _ | ⟨y', _ | ⟨z', xs⟩⟩⟩ := xs
  · exact qs.elim
  · exact qs.2.elim
  · obtain ⟨rfl, er⟩ := (show x' = .ref a ∧ Er S d fs from qs.1.2)
    cases (show y' = .ref C' from qs.2.1.2)
    exact Vb.r_isXr e (er.imp (·.1) fun ⟨dd, gs, h1, h2, _⟩ => ⟨dd, gs, h1, R.sh _ _ h2⟩) (z S _ H _ env q (Same.refl S) R rfl)
  · exact qs.2.2.elim
theorem r_isXT {a D : Addr} {n : String} {d : Option Addr} {fs : List (Str × Asn)} {b : Bool} (e : PySem.W.kitOne K (.ref D) (.type n) = some b) (q : k (.v (Bo b)) env) : RL c (Vb.rIsX K D a (.ref D) d) [.v (Ea a d fs), .v (Vl (.ty n))] env k := fun S σ H xs Q R qs z => by
  obtain _ | ⟨x', _ | ⟨y', _ | ⟨z', xs⟩⟩⟩ := xs
  · exact qs.elim
  · exact qs.2.elim
  · obtain ⟨rfl, er⟩ := (show x' = .ref a ∧ Er S d fs from qs.1.2)
    cases (show y' = .ty n from qs.2.1.2)
    exact Vb.r_isXt e (er.imp (·.1) fun ⟨dd, gs, h1, h2, _⟩ => ⟨dd, gs, h1, R.sh _ _ h2⟩) (z S _ H _ env q (Same.refl S) R rfl)
  · exact qs.2.2.elim
end
/-! ### data -/
class ToD (K : PySem.W.Frag) (A : Asn) (d : outParam PyData) : Prop where
  d : ∀ S v, A.r S v → Dp K S v d
class ToDs (K : PySem.W.Frag) (As : List Asn) (ds : outParam (List PyData)) : Prop where
  d : ∀ S vs, All S As vs → DpAll K S vs ds
section
variable {K : PySem.W.Frag}
instance {n : Int} : ToD K (I n) (.int n) := ⟨fun S v h => by cases (show v = .int n from h); exact .int n⟩
instance {b : Bool} : ToD K (Bo b) (.bool b) := ⟨fun S v h => by cases (show v = .bl b from h); exact .bl b⟩
instance {s : Str} : ToD K (Sr s) (.str s) := ⟨fun S v h => by cases (show v = .str s from h); exact .str s⟩
instance : ToD K No .none := ⟨fun S v h => by cases (show v = .non from h); exact .non⟩
instance {d : PyData} : ToD K (D K d) d := ⟨fun S v h => h⟩
instance {As : List Asn} {ds : List PyData} [h : ToDs K As ds] : ToD K (L As) (.list ds) := ⟨fun S v ⟨a, xs, e, s, g⟩ => by subst e; exact .lst (Vb.sq_of s) (h.d S xs g)⟩
instance {As : List Asn} {ds : List PyData} [h : ToDs K As ds] : ToD K (Tu K As) (.tuple ds) := ⟨fun S v ⟨a, xs, e, s, g⟩ => by subst e; exact .tup (Vb.st_of s) (h.d S xs g)⟩
instance : ToDs K [] [] := ⟨fun S vs h => by cases vs with | nil => exact .nil | cons => exact h.elim⟩
instance {A : Asn} {As : List Asn} {d : PyData} {ds : List PyData} [a : ToD K A d] [b : ToDs K As ds] : ToDs K (A :: As) (d :: ds) := ⟨fun S vs h => by cases vs with | nil => exact h.elim | cons v vs => exact .cons (a.d S v h.1) (b.d S vs h.2)⟩
instance {α : Type} {f : α → Asn} {g : α → PyData} {xs : List α} [a : ∀ x, ToD K (f x) (g x)] : ToDs K (xs.map f) (xs.map g) := ⟨fun S vs h => by
  induction xs generalizing vs with
  | nil => cases vs with | nil => exact .nil | cons => exact h.elim
  | cons x xs ih => cases vs with | nil => exact h.elim | cons v vs => exact .cons ((a x).d S v h.1) (ih vs h.2)⟩
end
section
variable {so : Option Addr} {c : Ct so} {K : PySem.W.Frag} {env : Ev} {k : Rs → Ev → Prop}
theorem r_isi {A : Asn} {d : PyData} [h : ToD K A d] {n : String} {b : Bool} (e : kitB (Vb.tyN d) n = some b) (q : k (.v (Bo b)) env) : RL c (rIsi K) [.v A, .v (Vl (.ty n))] env k := fun S σ H xs Q R qs z => by
  obtain _ | ⟨x', _ | ⟨y', _ | ⟨z', xs⟩⟩⟩ := xs
  · exact qs.elim
  · exact qs.2.elim
  · cases (show y' = .ty n from qs.2.1.2)
    exact Vb.r_isi (Vb.dp_same R.sh _ _ (h.d S x' qs.1.2)) e (z S _ H _ env q (Same.refl S) R rfl)
  · exact qs.2.2.elim
end
end Pu
namespace Pu
open PySem PySem.Spec PyProof.Rows L2
/-! ### from promises over the heap to promises without it -/
section
variable {B H H' : Hp}
theorem bs_k (b : Same B H) (e : Same H H') {p : Addr} {o : HO} (h : H' p = some o) (n : H p = none ∨ Fix o) : backS B H H' p = some o := back_mk h n fun u g => by
  have := e _ _ (b _ _ g)
  rw [h] at this
  exact (Option.some.inj this).symm
theorem bs_b {p : Addr} {o : HO} (h : B p = some o) : backS B H H' p = some o := by unfold backS; rw [h]
theorem nxt_new (b : Same B H) (e : Same H H') : Nxt none B H (backS B H H') H' := ⟨Frm.of_same e, fun _ _ h => bs_b h, fun p o h => (back_of h).elim (fun g => e _ _ (b _ _ g)) (·.1), fun p o h => (back_of h).imp id (·.2)⟩
theorem nxt_same (b : Same B H) (e : Same H H') : Nxt none B H B H' := ⟨Frm.of_same e, Same.refl B, b.trans e, fun _ _ h => .inl h⟩
theorem fr_sub {st : Addr} (b : Same B H) (n : B st = none) (f : Vb.Fr st H H') : Same B H' := fun p o h => f.k p o (ne_of_none h n) (b _ _ h)
theorem nxt_fr {st : Addr} (b : Same B H) (n : B st = none) (f : Vb.Fr st H H') (s : Vb.StoreAt H' st) : Nxt (some st) B H B H' := ⟨Frm.of_fr f s, Same.refl B, fr_sub b n f, fun _ _ h => .inl h⟩
theorem bs_fr {st : Addr} (b : Same B H) (m : B st = none) (f : Vb.Fr st H H') {p : Addr} {o : HO} (h : H' p = some o) (n : H p = none ∨ Fix o) : backS B H H' p = some o := back_mk h n fun u g => by
  have := fr_sub b m f _ _ g
  rw [h] at this
  exact (Option.some.inj this).symm
theorem nxt_frn {st : Addr} (b : Same B H) (n : B st = none) (f : Vb.Fr st H H') (s : Vb.StoreAt H' st) : Nxt (some st) B H (backS B H H') H' := ⟨Frm.of_fr f s, fun _ _ h => bs_b h, fun p o h => (back_of h).elim (fun g => fr_sub b n f _ _ g) (·.1), fun p o h => (back_of h).imp id (·.2)⟩
theorem one {S : Hp} {A : Asn} {xs : List V} (h : All S [A] xs) : ∃ x, xs = [x] ∧ A.r S x := by
  obtain _ | ⟨x, _ | ⟨y, xs⟩⟩ := xs
  · exact h.elim
  · exact ⟨x, rfl, h.1⟩
  · exact h.2.elim
theorem two {S : Hp} {A A' : Asn} {xs : List V} (h : All S [A, A'] xs) : ∃ x y, xs = [x, y] ∧ A.r S x ∧ A'.r S y := by
  obtain _ | ⟨x, xs⟩ := xs
  · exact h.elim
  · obtain ⟨y, rfl, g⟩ := one h.2
    exact ⟨x, y, rfl, h.1, g⟩
theorem three {S : Hp} {A A' A2 : Asn} {xs : List V} (h : All S [A, A', A2] xs) : ∃ x y z, xs = [x, y, z] ∧ A.r S x ∧ A'.r S y ∧ A2.r S z := by
  obtain _ | ⟨x, xs⟩ := xs
  · exact h.elim
  · obtain ⟨y, z, rfl, g⟩ := two h.2
    exact ⟨x, y, z, rfl, h.1, g⟩
theorem four {S : Hp} {A A' A2 A3 : Asn} {xs : List V} (h : All S [A, A', A2, A3] xs) : ∃ x y z w, xs = [x, y, z, w] ∧ A.r S x ∧ A'.r S y ∧ A2.r S z ∧ A3.r S w := by
  obtain _ | ⟨x, xs⟩ := xs
  · exact h.elim
  · obtain ⟨y, z, w, rfl, g⟩ := three h.2
    exact ⟨x, y, z, w, rfl, h.1, g⟩
theorem zero {S : Hp} {xs : List V} (h : All S [] xs) : xs = [] := by
  obtain _ | ⟨x, xs⟩ := xs
  · rfl
  · exact h.elim
/-- a new list, told to the caller -/
theorem rt_new {As : List Asn} {S : Hp} {l : Addr} {vs : List V} (h : H' l = some (.lst vs)) (n : H l = none) (s : S l = none) (g : All S As vs) : Rt H S H' (.o (Lc As)) (.ref l) := ⟨l, _, rfl, h, ⟨vs, rfl, g⟩, s, n⟩
theorem sub_none (b : Same B H) {l : Addr} (n : H l = none) : B l = none := by
  cases h : B l with
  | none => rfl
  | some o => have := b _ _ h; rw [n] at this; cases this
end
/-! ### small things for the walk -/
section
variable {so : Option Addr} {c : Ct so} {K : PySem.W.Frag} {env : Ev} {g : TG} {ts : TS} {nx : Ev → Prop} {rt : Rs → Prop} {bk ct : Ev → Prop} {te : TE} {tt : TT}
theorem q_for1 {m : Int} {env1 : Ev} (b : -(2 ^ 62) ≤ m ∧ m < 2 ^ 62) (h : LoopN c m.toNat (fun i => I (0 + i)) g ts env1 ⟨nx, rt, bk, ct⟩) : ∃ n, [Rs.v (I m)] = [.v (I n)] ∧ (-(2 ^ 62) ≤ n ∧ n < 2 ^ 62) ∧ LoopN c n.toNat (fun i => I (0 + i)) g ts env1 ⟨nx, rt, bk, ct⟩ := ⟨m, rfl, b, h⟩
theorem q_for2 {a b : Int} {env1 : Ev} (h0 : (-(2 ^ 62) ≤ a ∧ a < 2 ^ 62 ∧ -(2 ^ 62) ≤ b ∧ b < 2 ^ 62) ∨ b ≤ a) (h : LoopN c (b - a).toNat (fun i => I (a + i)) g ts env1 ⟨nx, rt, bk, ct⟩) : ∃ lo hi, [Rs.v (I a), .v (I b)] = [.v (I lo), .v (I hi)] ∧ ((-(2 ^ 62) ≤ lo ∧ lo < 2 ^ 62 ∧ -(2 ^ 62) ≤ hi ∧ hi < 2 ^ 62) ∨ hi ≤ lo) ∧ LoopN c (hi - lo).toNat (fun i => I (lo + i)) g ts env1 ⟨nx, rt, bk, ct⟩ := ⟨a, b, rfl, h0, h⟩
theorem q_forL {As : List Asn} {env1 : Ev} (h : LoopL c As g ts env1 ⟨nx, rt, bk, ct⟩) : ∃ Bs, [L As] = [L Bs] ∧ LoopL c Bs g ts env1 ⟨nx, rt, bk, ct⟩ := ⟨As, rfl, h⟩
theorem q_forT {As : List Asn} {env1 : Ev} (h : LoopL c As g ts env1 ⟨nx, rt, bk, ct⟩) : ∃ Bs, Rs.v (Tu K As) = .v (Tu K Bs) ∧ LoopL c Bs g ts env1 ⟨nx, rt, bk, ct⟩ := ⟨As, rfl, h⟩
theorem q_lc1 {m : Int} {j : Nat} {env1 : Ev} {kk : List Asn → Prop} (b : -(2 ^ 62) ≤ m ∧ m < 2 ^ 62) (no : NoOwn env1 j) (h : LcN c m.toNat (fun i => I (0 + i)) j tt te env1 kk) : ∃ n, [Rs.v (I m)] = [.v (I n)] ∧ (-(2 ^ 62) ≤ n ∧ n < 2 ^ 62) ∧ NoOwn env1 j ∧ LcN c n.toNat (fun i => I (0 + i)) j tt te env1 kk := ⟨m, rfl, b, no, h⟩
theorem q_lc2 {a b : Int} {j : Nat} {env1 : Ev} {kk : List Asn → Prop} (h0 : (-(2 ^ 62) ≤ a ∧ a < 2 ^ 62 ∧ -(2 ^ 62) ≤ b ∧ b < 2 ^ 62) ∨ b ≤ a) (no : NoOwn env1 j) (h : LcN c (b - a).toNat (fun i => I (a + i)) j tt te env1 kk) : ∃ lo hi, [Rs.v (I a), .v (I b)] = [.v (I lo), .v (I hi)] ∧ ((-(2 ^ 62) ≤ lo ∧ lo < 2 ^ 62 ∧ -(2 ^ 62) ≤ hi ∧ hi < 2 ^ 62) ∨ hi ≤ lo) ∧ NoOwn env1 j ∧ LcN c (hi - lo).toNat (fun i => I (lo + i)) j tt te env1 kk := ⟨a, b, rfl, h0, no, h⟩
theorem q_lcL {As : List Asn} {j : Nat} {env1 : Ev} {kk : List Asn → Prop} (no : NoOwn env1 j) (h : LcL c As j tt te env1 kk) : ∃ Bs, [L As] = [L Bs] ∧ NoOwn env1 j ∧ LcL c Bs j tt te env1 kk := ⟨As, rfl, no, h⟩
theorem q_lcT {As : List Asn} {j : Nat} {env1 : Ev} {kk : List Asn → Prop} (no : NoOwn env1 j) (h : LcL c As j tt te env1 kk) : ∃ Bs, Rs.v (Tu K As) = .v (Tu K Bs) ∧ NoOwn env1 j ∧ LcL c Bs j tt te env1 kk := ⟨As, rfl, no, h⟩
theorem q_tup {n : Nat} {Pk : Prop} (l : Nat.ble n 16777216 = true) (q : Pk) : n ≤ 16777216 ∧ Pk := ⟨Nat.le_of_ble_eq_true l, q⟩
theorem q_app {i : Nat} {env1 : Ev} {As : List Asn} {A : Asn} {Q : List Asn → Asn → Prop} (e : env1[i]? = some (.o (Lc As))) (l : As.length < 16777216) (q : Q As A) : ∃ As' A', [A] = [A'] ∧ env1[i]? = some (.o (Lc As')) ∧ As'.length < 16777216 ∧ Q As' A' := ⟨As, A, rfl, e, l, q⟩
theorem q_meth {A : Asn} {C : Addr} {m : Str} {Q : Asn → Prop} (h : NoM A C m) (q : Q A) : ∃ A', Rs.v A = .v A' ∧ NoM A' C m ∧ Q A' := ⟨A, rfl, h, q⟩
theorem q_ins {A : Asn} {C : Addr} {Q : Asn → Prop} (h : Ins A C) (q : Q A) : ∃ A', Rs.v A = .v A' ∧ Ins A' C ∧ Q A' := ⟨A, rfl, h, q⟩
theorem q_ins2 {A : Asn} {C : Addr} {Q : Prop} (h : Ins A C) (q : Q) : (∃ A' C', Rs.v A = .v A' ∧ Ins A' C') ∧ Q := ⟨⟨A, C, rfl, h⟩, q⟩
theorem q_raise {A : Asn} {Q : Asn → Prop} (q : Q A) : ∃ A', [A] = [A'] ∧ Q A' := ⟨A, rfl, q⟩
theorem q_revL {As : List Asn} {r : Rs} {Q : List Asn → Prop} (h : IsL env r As) (q : Q As) : ∃ As', IsL env r As' ∧ Q As' := ⟨As, h, q⟩
theorem q_sub {i : Nat} {env1 : Ev} {Q : Prop} {As0 : List Asn} (e : env1[i]? = some (.o (Lc As0))) (q : Q) : env1[i]? = some (.o (Lc As0)) ∧ Q := ⟨e, q⟩
theorem q_sub2 {i : Nat} {z : Int} {env1 : Ev} {As : List Asn} {A : Asn} {j : Nat} {Q : List Asn → Asn → Nat → Prop} (e : env1[i]? = some (.o (Lc As))) (h : ixN As.length z = some j) (q : Q As A j) : ∃ As' A' j', [A] = [A'] ∧ env1[i]? = some (.o (Lc As')) ∧ ixN As'.length z = some j' ∧ Q As' A' j' := ⟨As, A, j, rfl, e, h, q⟩
theorem q_lcs {A : Asn} {env1 : Ev} {acc : List Asn} {N : List Asn → Prop} (l : acc.length < 16777216) (q : N (acc ++ [A])) : ∃ A' B, [A] = [A'] ∧ Imp A' B ∧ env1 = env1 ∧ acc.length < 16777216 ∧ N (acc ++ [B]) := ⟨A, A, rfl, Imp.rfl, rfl, l, q⟩
end
end Pu
namespace Pu
open PySem PySem.Spec PyProof.Rows L2
/-! ### what is walked, in general -/
section
variable {so : Option Addr} {c : Ct so} {K : PySem.W.Frag} {env : Ev} {k : Rs → Ev → Prop} {te tl : TE} {t : TA} {tt : TT} {ts : TS} {g : TG} {nx : Ev → Prop} {rt : Rs → Prop} {bk ct : Ev → Prop}
/-- the iterator gives these, one by one -/
structure ItOk (c : Ct so) (S : Hp) (As : List Asn) (J : It) : Prop where
  stop : ∀ S' env σ H, Same S S' → Rep c S' env σ H → J.stop As.length H
  go : ∀ S' env σ H i A, Same S S' → Rep c S' env σ H → As[i]? = some A → J.go i H ∧ ∀ x H', J.yld i H x H' → ∃ S2, Same S' S2 ∧ Rep c S2 env σ H' ∧ A.r S2 x ∧ (∀ b o, H b = some o → H' b = some o)
theorem ItOk.up {S S' : Hp} {As : List Asn} {J : It} (h : ItOk c S As J) (e : Same S S') : ItOk c S' As J := ⟨fun T v s H q => h.stop T v s H (e.trans q), fun T v s H i A q => h.go T v s H i A (e.trans q)⟩
def IT (c : Ct so) (wi : TI) (env : Ev) (k : List Asn → Ev → Prop) : Prop := ∀ S σ H R, Rep c S env σ H → (∀ S' J H' As env', k As env' → Same S S' → Rep c S' env' σ H' → (∀ c' : Ct so, ItOk c' S' As J) → R J H') → wi σ H R
theorem it_list {ki : List Asn → Ev → Prop} (h : E c tl env fun r env1 => Z r fun r1 => Fz [r1] env1 fun Bs env2 => ∃ As, Bs = [L As] ∧ ki As env2) : IT c (iList K tl) env ki := fun S σ H R Rp z => by
  refine h S σ H _ Rp fun S1 x H1 r env1 g1 e1 R1 q1 => ?_
  obtain ⟨r1, S2, g2, d2, e2, R2, q2⟩ := g1.go R1 q1
  obtain ⟨S3, Bs, env3, ⟨As, rfl, hk⟩, e3, R3, q3⟩ := g2.go (xs := [x]) R2 (fun _ => ⟨⟨d2, q2.up d2 (Same.refl S2)⟩, trivial⟩) S2 (Same.refl S2)
  obtain ⟨⟨a, xs, rfl, s, g⟩, _⟩ := q3
  refine ⟨a, rfl, ⟨xs, Vb.sq_of (R3.sh _ _ s)⟩, z S3 (Itl K a) H1 As env3 hk (e1.trans (e2.trans e3)) R3 fun c' => ⟨fun S' env' σ' H' e R' => ⟨xs, Vb.sq_of (R'.sh _ _ (e _ _ s)), by rw [g.len]; exact Nat.le_refl _⟩, fun S' env' σ' H' i A e R' hA => ?_⟩⟩
  obtain ⟨v, h1, h2⟩ := g.get hA
  have hl := Vb.sq_of (K := K) (R'.sh _ _ (e _ _ s))
  refine ⟨⟨xs, v, hl, h1⟩, fun y H2 ⟨e2, h3⟩ => ?_⟩
  subst e2
  have := h3 xs hl
  rw [h1] at this
  cases this
  exact ⟨S', Same.refl S', R', A.up e h2, fun _ _ h => h⟩
theorem it_tup_ {S : Hp} {a : Addr} {xs : List V} {As : List Asn} (s : S a = some (.tup xs)) (g : All S As xs) (c' : Ct so) : ItOk c' S As (Itt K a) := ⟨fun S' env' σ' H' e R' => ⟨xs, Vb.sqd (e.trans R'.sh) s, by rw [g.len]; exact Nat.le_refl _⟩, fun S' env' σ' H' i A e R' hA => by
  obtain ⟨v, h1, h2⟩ := g.get hA
  have hl := Vb.sqd (K := K) (e.trans R'.sh) s
  refine ⟨⟨xs, v, hl, h1⟩, fun y H2 ⟨e2, h3⟩ => ?_⟩
  subst e2
  have := h3 xs hl
  rw [h1] at this
  cases this
  exact ⟨S', Same.refl S', R', A.up e h2, fun _ _ h => h⟩⟩
theorem it_tup {ki : List Asn → Ev → Prop} (h : E c tl env fun r env1 => ∃ As, r = .v (Tu K As) ∧ ki As env1) : IT c (iTup K tl) env ki := fun S σ H R Rp z => by
  refine h S σ H _ Rp fun S3 x H3 r env3 g1 ee R3 q1 => ?_
  obtain ⟨As, rfl, hk⟩ := g1
  obtain ⟨a, xs, rfl, s, g⟩ := q1
  exact ⟨a, rfl, ⟨xs, Vb.sqd R3.sh s⟩, z S3 (Itt K a) H3 As env3 hk ee R3 (it_tup_ s g)⟩
theorem it_lst_ {S : Hp} {a : Addr} {xs : List V} {As : List Asn} (s : S a = some (.lst xs)) (g : All S As xs) (c' : Ct so) : ItOk c' S As (Itl K a) := ⟨fun S' env' σ' H' e R' => ⟨xs, Vb.sq_of (R'.sh _ _ (e _ _ s)), by rw [g.len]; exact Nat.le_refl _⟩, fun S' env' σ' H' i A e R' hA => by
  obtain ⟨v, h1, h2⟩ := g.get hA
  have hl := Vb.sq_of (K := K) (R'.sh _ _ (e _ _ s))
  refine ⟨⟨xs, v, hl, h1⟩, fun y H2 ⟨e2, h3⟩ => ?_⟩
  subst e2
  have := h3 xs hl
  rw [h1] at this
  cases this
  exact ⟨S', Same.refl S', R', A.up e h2, fun _ _ h => h⟩⟩
theorem it_seq {ki : List Asn → Ev → Prop} (h : E c tl env fun r env1 => Z r fun r1 => Fz [r1] env1 fun Bs env2 => ∃ A As, Bs = [A] ∧ SqOf K A As ∧ ki As env2) : IT c (Vb.iSeq K tl) env ki := fun S σ H R Rp z => by
  refine Vb.r_iSeq (h S σ H _ Rp fun S1 x H1 r env1 g1 e1 R1 q1 => ?_)
  obtain ⟨r1, S2, g2, d2, e2, R2, q2⟩ := g1.go R1 q1
  obtain ⟨S3, Bs, env3, ⟨A, As, rfl, hA, hk⟩, e3, R3, q3⟩ := g2.go (xs := [x]) R2 (fun _ => ⟨⟨d2, q2.up d2 (Same.refl S2)⟩, trivial⟩) S2 (Same.refl S2)
  obtain ⟨a, xs, rfl, s, g⟩ := hA _ _ q3.1
  have ee := e1.trans (e2.trans e3)
  refine ⟨a, rfl, ?_⟩
  rcases s with s | s
  · exact .inl ⟨⟨xs, Vb.sq_of (R3.sh _ _ s)⟩, z S3 (Itl K a) H1 As env3 hk ee R3 (it_lst_ s g)⟩
  · exact .inr ⟨⟨xs, Vb.sqd R3.sh s⟩, z S3 (Itt K a) H1 As env3 hk ee R3 (it_tup_ s g)⟩
/-- lo, lo + 1, .., n of them -/
def rngA (lo : Int) (n : Nat) : List Asn := (List.range n).map fun i => I (lo + (i : Nat))
theorem rng_len (lo : Int) (n : Nat) : (rngA lo n).length = n := by unfold rngA; rw [List.length_map, List.length_range]
theorem it_rng_ {S : Hp} {lo : Int} {n : Nat} (c' : Ct so) : ItOk c' S (rngA lo n) (Itr lo n) := ⟨fun S' env' σ' H' e R' => by rw [rng_len]; exact Nat.le_refl n, fun S' env' σ' H' i A e R' hA => by
  have li := (List.getElem?_eq_some_iff.mp hA).1
  rw [rng_len] at li
  unfold rngA at hA
  rw [List.getElem?_map, List.getElem?_range li] at hA
  cases hA
  refine ⟨li, fun y H2 ⟨e2, h3⟩ => ?_⟩
  subst e2 h3
  exact ⟨S', Same.refl S', R', rfl, fun _ _ h => h⟩⟩
theorem it_rng1 {ki : List Asn → Ev → Prop} (h : EA c t env fun rs env1 => ∃ n, rs = [.v (I n)] ∧ (-(2 ^ 62) ≤ n ∧ n < 2 ^ 62) ∧ ki (rngA 0 n.toNat) env1) : IT c (iRng1 t) env ki := fun S σ H R Rp z => by
  refine h S σ H _ Rp fun S1 xs H1 rs env1 g1 e1 R1 q1 => ?_
  obtain ⟨n, rfl, hn, hk⟩ := g1
  obtain _ | ⟨x, _ | ⟨y, xs⟩⟩ := xs
  · exact q1.elim
  · cases (show x = .int n from q1.1.2)
    exact ⟨n, rfl, hn.1, hn.2, z S1 _ H1 _ env1 hk e1 R1 it_rng_⟩
  · exact q1.2.elim
theorem it_rngW {ki : List Asn → Ev → Prop} (h : EA c t env fun rs env1 => ∃ lo hi, rs = [.v (I lo), .v (I hi)] ∧ ((-(2 ^ 62) ≤ lo ∧ lo < 2 ^ 62 ∧ -(2 ^ 62) ≤ hi ∧ hi < 2 ^ 62) ∨ hi ≤ lo) ∧ ki (rngA lo (hi - lo).toNat) env1) : IT c (Vb.iRngW t) env ki := fun S σ H R Rp z => by
  refine Vb.r_rngW (h S σ H _ Rp fun S1 xs H1 rs env1 g1 e1 R1 q1 => ?_)
  obtain ⟨lo, hi, rfl, hn, hk⟩ := g1
  obtain _ | ⟨x, _ | ⟨y, _ | ⟨w, xs⟩⟩⟩ := xs
  · exact q1.elim
  · exact q1.2.elim
  · cases (show x = .int lo from q1.1.2)
    cases (show y = .int hi from q1.2.1.2)
    exact ⟨lo, hi, rfl, hn, z S1 _ H1 _ env1 hk e1 R1 it_rng_⟩
  · exact q1.2.2.elim
/-- pairs -/
def zipA (K : PySem.W.Frag) (As Bs : List Asn) : List Asn := List.zipWith (fun A B => Tu K [A, B]) As Bs
theorem zipGet {α β γ : Type} {f : α → β → γ} : ∀ {xs : List α} {ys : List β} {i : Nat} {z : γ}, (List.zipWith f xs ys)[i]? = some z → ∃ x y, xs[i]? = some x ∧ ys[i]? = some y ∧ z = f x y
  | [], _, i, z, h => by simp at h
  | _ :: _, [], i, z, h => by simp at h
  | x :: xs, y :: ys, 0, z, h => by simp at h; exact ⟨x, y, rfl, rfl, h.symm⟩
  | x :: xs, y :: ys, i + 1, z, h => by
    obtain ⟨a, b, h1, h2, h3⟩ := zipGet (xs := xs) (ys := ys) (i := i) (z := z) (by simpa using h)
    exact ⟨a, b, by simpa using h1, by simpa using h2, h3⟩
theorem zip_len {As Bs : List Asn} : (zipA K As Bs).length = min As.length Bs.length := by unfold zipA; exact List.length_zipWith
theorem it_zip {ki : List Asn → Ev → Prop} (h : EA c t env fun rs env1 => Fz rs env1 fun Cs env2 => ∃ A B As Bs, Cs = [A, B] ∧ SqOf K A As ∧ SqOf K B Bs ∧ ki (zipA K As Bs) env2) : IT c (Vb.iZipB K t) env ki := fun S σ H R Rp z => by
  refine Vb.r_iZipB (h S σ H _ Rp fun S1 vs H1 rs env1 g1 e1 R1 q1 => ?_)
  obtain ⟨S2, Cs, env2, ⟨A, B, As, Bs, rfl, hA, hB, hk⟩, e2, R2, q2⟩ := g1.go R1 (fun _ => q1.any) S1 (Same.refl S1)
  obtain _ | ⟨x, _ | ⟨y, _ | ⟨w, vs⟩⟩⟩ := vs
  · exact q2.elim
  · exact q2.2.elim
  · obtain ⟨a, xs, rfl, s1, g1⟩ := hA _ _ q2.1
    obtain ⟨b, ys, rfl, s2, g2⟩ := hB _ _ q2.2.1
    have sqb : ∀ {S : Hp} {a : Addr} {xs : List V}, (S a = some (.lst xs) ∨ S a = some (.tup xs)) → ∃ p, ∀ {c' : Ct so} {S' H'} {env' : Ev} {σ' : L2.St}, Same S S' → Rep c' S' env' σ' H' → Vb.SqB K H' a xs p := fun {S a xs} s => by
      rcases s with s | s
      · exact ⟨true, fun e R' => ⟨fun _ => Vb.sq_of (R'.sh _ _ (e _ _ s)), fun z => by cases z⟩⟩
      · exact ⟨false, fun e R' => ⟨fun z => (by cases z), fun _ => Vb.sqd (e.trans R'.sh) s⟩⟩
    obtain ⟨p, hp⟩ := sqb s1
    obtain ⟨q, hq⟩ := sqb s2
    refine ⟨a, b, xs, ys, p, q, rfl, hp (Same.refl S2) R2, hq (Same.refl S2) R2, z S2 _ H1 _ env2 hk (e1.trans e2) R2 fun c' => ⟨fun S' env' σ' H' e R' => ⟨hp e R', hq e R', ?_⟩, fun S' env' σ' H' i C e R' hC => ?_⟩⟩
    · unfold zipA
      rw [List.length_zipWith, g1.len, g2.len]
      omega
    · obtain ⟨A', B', h1, h2, rfl⟩ := zipGet hC
      obtain ⟨u, u1, u2⟩ := g1.get h1
      obtain ⟨v, v1, v2⟩ := g2.get h2
      refine ⟨⟨hp e R', hq e R', (List.getElem?_eq_some_iff.mp u1).1, (List.getElem?_eq_some_iff.mp v1).1⟩, ?_⟩
      rintro y H2 ⟨T, u', v', rfl, nT, rfl, w1, w2⟩
      rw [u1] at w1
      rw [v1] at w2
      cases w1
      cases w2
      have es := Vb.same_new (o := .tup [u, v]) (R'.s_none nT)
      exact ⟨_, es, R'.new nT, ⟨T, _, rfl, upd_same, A'.up (e.trans es) u2, B'.up (e.trans es) v2, trivial⟩, fun b o h => Vb.h_new nT h⟩
  · exact q2.2.2.elim
/-- each with its number -/
def enumA (K : PySem.W.Frag) (As : List Asn) : List Asn := As.mapIdx fun i A => Tu K [I (i : Nat), A]
theorem enum_get {As : List Asn} {i : Nat} {B : Asn} (h : (enumA K As)[i]? = some B) : ∃ A, As[i]? = some A ∧ B = Tu K [I (i : Nat), A] := by
  unfold enumA at h
  rw [List.getElem?_mapIdx] at h
  cases e : As[i]? with
  | none => rw [e] at h; cases h
  | some A => rw [e] at h; cases h; exact ⟨A, rfl, rfl⟩
theorem enum_len {As : List Asn} : (enumA K As).length = As.length := by unfold enumA; rw [List.length_mapIdx]
theorem it_enum {ki : List Asn → Ev → Prop} (h : EA c t env fun rs env1 => Fz rs env1 fun Cs env2 => ∃ As, Cs = [L As] ∧ ki (enumA K As) env2) : IT c (iEnum K t) env ki := fun S σ H R Rp z => by
  refine h S σ H _ Rp fun S1 vs H1 rs env1 g1 e1 R1 q1 => ?_
  obtain ⟨S2, Cs, env2, ⟨As, rfl, hk⟩, e2, R2, q2⟩ := g1.go R1 (fun _ => q1.any) S1 (Same.refl S1)
  obtain _ | ⟨x, _ | ⟨w, vs⟩⟩ := vs
  · exact q2.elim
  · obtain ⟨a, xs, rfl, s, g⟩ := q2.1
    refine ⟨a, xs, rfl, Vb.sq_of (R2.sh _ _ s), z S2 _ H1 _ env2 hk (e1.trans e2) R2 fun c' => ⟨fun S' env' σ' H' e R' => ⟨xs, Vb.sq_of (R'.sh _ _ (e _ _ s)), by rw [enum_len, g.len]; exact Nat.le_refl _⟩, fun S' env' σ' H' i C e R' hC => ?_⟩⟩
    obtain ⟨A, hA, rfl⟩ := enum_get hC
    obtain ⟨v, h1, h2⟩ := g.get hA
    have hl := Vb.sq_of (K := K) (R'.sh _ _ (e _ _ s))
    refine ⟨⟨xs, v, hl, h1⟩, ?_⟩
    rintro y H2 ⟨T, u, rfl, nT, rfl, w⟩
    have := w xs hl
    rw [h1] at this
    cases this
    have es := Vb.same_new (o := .tup [.int (i : Nat), v]) (R'.s_none nT)
    exact ⟨_, es, R'.new nT, ⟨T, _, rfl, upd_same, rfl, A.up (e.trans es) h2, trivial⟩, fun b o h => Vb.h_new nT h⟩
  · exact q2.2.elim
theorem it_enumT {ki : List Asn → Ev → Prop} (h : EA c t env fun rs env1 => ∃ As, rs = [.v (Tu K As)] ∧ ki (enumA K As) env1) : IT c (Vb.iEnumT K t) env ki := fun S σ H R Rp z => by
  refine Vb.r_iEnumT (h S σ H _ Rp fun S1 vs H1 rs env1 g1 e1 R1 q1 => ?_)
  obtain ⟨As, rfl, hk⟩ := g1
  obtain _ | ⟨x, _ | ⟨w, vs⟩⟩ := vs
  · exact q1.elim
  · obtain ⟨a, xs, rfl, s, g⟩ := q1.1.2
    refine ⟨a, xs, rfl, Vb.sqd R1.sh s, z S1 _ H1 _ env1 hk e1 R1 fun c' => ⟨fun S' env' σ' H' e R' => ⟨Vb.sqd (e.trans R'.sh) s, by rw [enum_len, g.len]; exact Nat.le_refl _⟩, fun S' env' σ' H' i C e R' hC => ?_⟩⟩
    obtain ⟨A, hA, rfl⟩ := enum_get hC
    obtain ⟨v, h1, h2⟩ := g.get hA
    refine ⟨⟨Vb.sqd (e.trans R'.sh) s, (List.getElem?_eq_some_iff.mp h1).1⟩, ?_⟩
    rintro y H2 ⟨T, u, rfl, nT, rfl, w⟩
    rw [h1] at w
    cases w
    have es := Vb.same_new (o := .tup [.int (i : Nat), v]) (R'.s_none nT)
    exact ⟨_, es, R'.new nT, ⟨T, _, rfl, upd_same, rfl, A.up (e.trans es) h2, trivial⟩, fun b o h => Vb.h_new nT h⟩
  · exact q1.2.elim
/-! ### for, in general -/
theorem w_for {wi : TI} (h : IT c wi env fun As env1 => LoopL c As g ts env1 ⟨nx, rt, bk, ct⟩) : W c (tFor wi g ts) env ⟨nx, rt, bk, ct⟩ := fun S σ H d R e => by
  cases d with
  | mk dn dr db dc =>
  refine Vb.r_for (h S σ H _ R fun S1 J H1 As env1 g1 e1 R1 q1 => ?_)
  obtain ⟨Inv, h0, hs, hd⟩ := g1
  refine ⟨fun i m σ' H' => m = As.length - i ∧ i ≤ As.length ∧ ∃ S' env', Inv i env' ∧ Same S1 S' ∧ Rep c S' env' σ' H', ⟨As.length - 0, rfl, Nat.zero_le _, S1, env1, h0, Same.refl S1, R1⟩, ?_⟩
  rintro i m σ' H' ⟨rfl, hi, S', env', hI, e', R'⟩
  by_cases z : i = As.length
  · subst z
    exact .inl ⟨(q1 c).stop S' env' σ' H' e' R', e.nx S' env' σ' H' (hd _ hI) (e1.trans e') R'⟩
  · refine .inr ?_
    have hA : As[i]? = some (As[i]'(by omega)) := List.getElem?_eq_getElem (by omega)
    obtain ⟨g1, g2⟩ := (q1 c).go S' env' σ' H' i _ e' R' hA
    refine ⟨g1, fun σ2 H2 => ∃ S2 env2, Inv (i + 1) env2 ∧ Same S1 S2 ∧ Rep c S2 env2 σ2 H2, fun σ2 H2 ⟨S2, env2, a, b, d⟩ => ⟨_, by omega, rfl, by omega, S2, env2, a, b, d⟩, fun x H2 hy => ?_⟩
    obtain ⟨S2, e2, R2, rA, _⟩ := g2 x H2 hy
    refine hs i _ env' hA hI S2 σ' H2 x _ R2 rA fun S4 σ4 H4 env4 g4 e4 R4 => ?_
    have e5 := e'.trans (e2.trans e4)
    exact g4 S4 σ4 H4 _ R4 ⟨fun S5 env5 σ5 H5 p q R5 => ⟨S5, env5, p, e5.trans q, R5⟩, (e.mono (e1.trans e5)).rt, (e.mono (e1.trans e5)).nx, fun S5 env5 σ5 H5 p q R5 => ⟨S5, env5, p, e5.trans q, R5⟩⟩
/-! ### comprehensions, in general -/
theorem wipe_len (σ : L2.St) : ∀ vs : List Nat, (wipe σ vs).length = σ.length := wipe_length σ
theorem wipe_get {σ : L2.St} {i : Nat} : ∀ {vs : List Nat}, (wipe σ vs)[i]? = if i ∈ vs then (if i < σ.length then some none else none) else σ[i]?
  | [] => by rw [if_neg (by simp)]; rfl
  | v :: vs => by
    show ((wipe σ vs).set v none)[i]? = _
    by_cases e : v = i
    · subst e
      rw [if_pos (List.mem_cons_self ..)]
      by_cases l : v < σ.length
      · rw [if_pos l, List.getElem?_set_self (by rw [wipe_len]; exact l)]
      · rw [if_neg l, List.getElem?_eq_none (by rw [List.length_set, wipe_len]; omega)]
    · rw [List.getElem?_set_ne e, wipe_get (vs := vs)]
      by_cases m : i ∈ vs
      · rw [if_pos m, if_pos (List.mem_cons_of_mem _ m)]
      · rw [if_neg m, if_neg (fun h => by rcases List.mem_cons.mp h with h | h; exact e h.symm; exact m h)]
theorem wipe_set {σ : L2.St} {vs : List Nat} {j : Nat} {u : Option V} (m : j ∈ vs) : wipe (σ.set j u) vs = wipe σ vs := List.ext_getElem? fun i => by
  rw [wipe_get, wipe_get, List.length_set]
  by_cases h : i ∈ vs
  · rw [if_pos h, if_pos h]
  · rw [if_neg h, if_neg h, List.getElem?_set_ne (fun e => h (by rw [← e]; exact m))]
theorem wipe_wipe {σ : L2.St} {vs : List Nat} : wipe (wipe σ vs) vs = wipe σ vs := List.ext_getElem? fun i => by
  rw [wipe_get (σ := wipe σ vs), wipe_len]
  by_cases h : i ∈ vs
  · rw [if_pos h, wipe_get, if_pos h]
  · rw [if_neg h]
def unE (env : Ev) : List Nat → Ev
  | [] => env
  | v :: vs => (unE env vs).set v .un
theorem unE_out {env : Ev} {i : Nat} : ∀ {vs : List Nat}, i ∉ vs → (unE env vs)[i]? = env[i]?
  | [], _ => rfl
  | v :: vs, h => by
    show ((unE env vs).set v .un)[i]? = _
    rw [List.getElem?_set_ne (fun e => h (by rw [e]; exact List.mem_cons_self ..)), unE_out (fun m => h (List.mem_cons_of_mem _ m))]
theorem Rep.wiped {S H : Hp} {σ : L2.St} (R : Rep c S env σ H) : ∀ vs : List Nat, Rep c S (unE env vs) (wipe σ vs) H
  | [] => R
  | v :: vs => (R.wiped vs).setU v none
/-- a target within a comprehension: only slots of vs -/
def GV (c : Ct so) (vs : List Nat) (g : TG) (A : Asn) (env : Ev) (kg : Ev → Prop) : Prop := ∀ S σ H x Q, Rep c S env σ H → A.r S x → (∀ σ' env', kg env' → Rep c S env' σ' H → wipe σ' vs = wipe σ vs → (∀ i, i ∉ vs → env'[i]? = env[i]?) → Q σ' H) → g x σ H Q
theorem gv_name {vs : List Nat} {j : Nat} {A : Asn} {kg : Ev → Prop} (m : j ∈ vs) (h : kg (env.set j (.v A))) : GV c vs (gName j) A env kg := fun S σ H x Q R q z => z _ _ h (R.setV j q) (wipe_set m) fun i n => List.getElem?_set_ne (fun e => n (by rw [← e]; exact m))
theorem gv_two {vs : List Nat} {i j : Nat} {A B : Asn} {kg : Ev → Prop} (m1 : i ∈ vs) (m2 : j ∈ vs) (h : kg ((env.set i (.v A)).set j (.v B))) : GV c vs (gTup K 2 (gCons (gName i) (gCons (gName j) gNil))) (Tu K [A, B]) env kg := fun S σ H x Q R q z => by
  obtain ⟨a, xs, rfl, s, g⟩ := q
  obtain _ | ⟨x, _ | ⟨y, _ | ⟨w, xs⟩⟩⟩ := xs
  · exact g.elim
  · exact g.2.elim
  · exact Vb.r_gT2 (Vb.sqd R.sh s) (z _ _ h ((R.setV i g.1).setV j g.2.1) (by rw [wipe_set m2, wipe_set m1]) fun k n => by rw [List.getElem?_set_ne (fun e => n (by rw [← e]; exact m2)), List.getElem?_set_ne (fun e => n (by rw [← e]; exact m1))])
  · exact g.2.2.elim
theorem Rep.backV {S S' H H1 : Hp} {σ σ2 : L2.St} {env2 : Ev} {vs : List Nat} (R0 : Rep c S env σ H) (e : Same S S') (n : ∀ i ∈ vs, NoOwn env i) (R : Rep c S' env2 σ2 H1) (we : ∀ i, i ∉ vs → env2[i]? = env[i]?) (ws : ∀ i, i ∉ vs → σ2[i]? = σ[i]?) : Rep c S' env σ H1 := by
  have ow : ∀ i a, Own env σ i a → Own env2 σ2 i a := fun i a ⟨⟨C, h1⟩, h2⟩ => by
    have z : i ∉ vs := fun z => n i z C h1
    exact ⟨⟨C, by rw [we i z]; exact h1⟩, by rw [ws i z]; exact h2⟩
  refine ⟨R.frm, R.bs, R.sh, R.nw, R.sf, R0.len, R.s0, fun i t g => ?_, fun i k a h1 h2 => R.dj i k a (ow _ _ h1) (ow _ _ h2), fun i a h => R.fr i a (ow _ _ h), fun b o g => ⟨(R.gh b o g).1, (R.gh b o g).2.1, (R.gh b o g).2.2.1, (R.gh b o g).2.2.2.1, fun i h => (R.gh b o g).2.2.2.2 i (ow _ _ h)⟩⟩
  by_cases z : i ∈ vs
  · obtain ⟨u', h1, h2⟩ := R0.sl i t g
    refine ⟨u', h1, ?_⟩
    cases t with
    | un => trivial
    | v A => obtain ⟨x, a, b⟩ := h2; exact ⟨x, a, A.up e b⟩
    | o C => exact absurd g (n i z C)
  · have := R.sl i t (by rw [we i z]; exact g)
    rw [ws i z] at this
    exact this
theorem wipe_out_eq {σ σ2 : L2.St} {vs : List Nat} (h : wipe σ2 vs = wipe σ vs) {i : Nat} (n : i ∉ vs) : σ2[i]? = σ[i]? := by
  have : (wipe σ2 vs)[i]? = (wipe σ vs)[i]? := by rw [h]
  rw [wipe_get, wipe_get, if_neg n, if_neg n] at this
  exact this
/-- [te for g in As if tt] -/
def LcG (c : Ct so) (As : List Asn) (vs : List Nat) (g : TG) (tt : TT) (te : TE) (env : Ev) (kk : List Asn → Prop) : Prop := ∃ Inv : Nat → List Asn → Prop, Inv 0 [] ∧ (∀ (c' : Ct so) i A acc, As[i]? = some A → Inv i acc → GV c' vs g A (unE env vs) fun env1 => LcS c' tt te env1 acc (Inv (i + 1))) ∧ ∀ acc, Inv As.length acc → kk acc
def NoOwns (env : Ev) : List Nat → Prop
  | [] => True
  | v :: vs => NoOwn env v ∧ NoOwns env vs
theorem NoOwns.all {env : Ev} : ∀ {vs : List Nat}, NoOwns env vs → ∀ i ∈ vs, NoOwn env i
  | [], _, i, m => by cases m
  | v :: vs, h, i, m => by
    rcases List.mem_cons.mp m with rfl | m
    · exact h.1
    · exact h.2.all i m
theorem lcG {As : List Asn} {vs : List Nat} {kk : List Asn → Prop} (Inv : Nat → List Asn → Prop) (h0 : Inv 0 []) (hs : ∀ (c' : Ct so) i A acc, As[i]? = some A → Inv i acc → GV c' vs g A (unE env vs) fun env1 => LcS c' tt te env1 acc (Inv (i + 1))) (hd : ∀ acc, Inv As.length acc → kk acc) : LcG c As vs g tt te env kk := ⟨Inv, h0, hs, hd⟩
/-- the turn's step: test and item, from what stands there (env1, σ1) -/
theorem lcs_run {S H : Hp} {σ : L2.St} {env1 : Ev} {acc : List Asn} {N : List Asn → Prop} {D : Addr} {ys : List V} (h : LcS (c.hold D (.lst ys)) tt te env1 acc N) (R : Rep (c.hold D (.lst ys)) S env1 σ H) (hy : All S acc ys) (hg : c.G D = none)
    {Q : Hp → Prop} (z : ∀ S' H' acc' ys', N acc' → Same S S' → Rep c S' env1 σ H' → H' D = some (.lst ys') → All S' acc' ys' → S' D = none → Q H') : tt σ H fun b H3 => if b = true then te σ H3 fun y H4 => ∃ ac, H4 D = some (.lst ac) ∧ ac.length < sizeLine ∧ Q (upd H4 D (.lst (ac ++ [y]))) else Q H3 := by
  refine h S _ H _ R fun S1 b H1 env2 g1 e1 R2 => ?_
  cases b with
  | false =>
    rw [if_neg (by decide)] at g1 ⊢
    obtain ⟨rfl, g⟩ := g1
    have d := R2.held
    exact z S1 H1 acc ys g e1 (R2.unhold hg) d.1 (hy.up e1) d.2.2.1
  | true =>
    rw [if_pos rfl] at g1 ⊢
    refine g1 S1 _ H1 _ R2 fun S2 y H2 r env3 g2 e2 R3 q3 => ?_
    obtain ⟨r1, S3, g3, d3, e3, R4, q4⟩ := g2.go R3 q3
    obtain ⟨S4, Bs, env4, ⟨A4, B, rfl, iB, rfl, l, g⟩, e4, R5, q5⟩ := g3.go (xs := [y]) R4 (fun _ => ⟨⟨d3, q4.up d3 (Same.refl S3)⟩, trivial⟩) S3 (Same.refl S3)
    have d := R5.held
    have ee := e1.trans (e2.trans (e3.trans e4))
    exact ⟨ys, d.1, by rw [← hy.len]; exact Vb.size_lt l, z S4 _ _ (ys ++ [y]) g ee ((R5.unhold hg).other d.2.1 d.2.2.1 hg d.2.2.2.2) upd_same ((hy.up ee).app (All.one (iB _ _ q5.1))) d.2.2.1⟩
theorem e_lcG {wi : TI} {vs us : List Nat} (hu : us = vs) (h : IT c wi env fun As env1 => NoOwns env1 vs ∧ LcG c As vs g tt te env1 fun acc => k (.o (Lc acc)) env1) : E c (tLc wi g tt te us) env k := fun S σ H Q R z => by
  subst hu
  refine Vb.r_lc (h S σ H _ R fun S1 J H1 As env1 g1 e1 R1 q1 => ?_)
  obtain ⟨no, Inv, i0, is, ie⟩ := g1
  intro D nD
  have nn := no.all
  refine ⟨fun i m H' => m = As.length - i ∧ i ≤ As.length ∧ ∃ S' acc, Inv i acc ∧ Same S1 S' ∧ Fill c S' env1 σ H' D acc, ⟨As.length - 0, rfl, Nat.zero_le _, S1, [], i0, Same.refl S1, .new R1 nD⟩, ?_⟩
  rintro i m H' ⟨rfl, hi, S', acc, hI, e', F⟩
  by_cases zz : i = As.length
  · subst zz
    exact .inl ⟨(q1 c).stop S' env1 σ H' e' F.R, z S' _ H' _ env1 (ie acc hI) (e1.trans e') F.R F.done⟩
  · refine .inr ?_
    have hA : As[i]? = some (As[i]'(by omega)) := List.getElem?_eq_getElem (by omega)
    obtain ⟨ys, hD, hys⟩ := F.h
    have RH := F.R.hold hD (fun z => z) F.h0 F.hs F.no
    obtain ⟨g1, g2⟩ := (q1 (c.hold D (.lst ys))).go S' env1 σ H' i _ e' RH hA
    refine ⟨g1, fun H2 => ∃ S2 acc', Inv (i + 1) acc' ∧ Same S1 S2 ∧ Fill c S2 env1 σ H2 D acc', fun H2 ⟨S2, acc', a, b, d⟩ => ⟨_, by omega, rfl, by omega, S2, acc', a, b, d⟩, fun x H2 hy => ?_⟩
    obtain ⟨S2, e2, R2, rA, _⟩ := g2 x H2 hy
    refine is _ i _ acc hA hI S2 _ H2 x _ (R2.wiped us) rA fun σ3 env3 g3 R3 w3 n3 => ⟨w3.trans wipe_wipe, ?_⟩
    refine lcs_run g3 R3 (hys.up e2) F.hg fun S4 H4 acc' ys' hN e4 R4 hD4 hy4 hs4 => ⟨S4, acc', hN, e'.trans (e2.trans e4), (R2.unhold F.hg).backV e4 nn R4 (fun j n => ?_) (fun j n => ?_), ⟨ys', hD4, hy4⟩, F.h0, hs4, F.hg, F.no⟩
    · rw [n3 j n, unE_out n]
    · exact wipe_out_eq (w3.trans wipe_wipe) n
/-- the second source of a comprehension, from what the first turn gave -/
def LcI (c : Ct so) (wi1 : TI) (vs1 : List Nat) (g1 : TG) (tt1 : TT) (te : TE) (env1 : Ev) (acc : List Asn) (N : List Asn → Prop) : Prop := IT c wi1 env1 fun As1 env3 => env3 = env1 ∧ ∃ Inv1 : Nat → List Asn → Prop, Inv1 0 acc ∧ (∀ (c' : Ct so) j B acc, As1[j]? = some B → Inv1 j acc → GV c' vs1 g1 B (unE env1 vs1) fun env4 => LcS c' tt1 te env4 acc (Inv1 (j + 1))) ∧ ∀ acc, Inv1 As1.length acc → N acc
/-- [te for g in As if tt for g1 in .. if tt1] -/
def LcG2 (c : Ct so) (As : List Asn) (vs : List Nat) (g : TG) (tt : TT) (wi1 : TI) (vs1 : List Nat) (g1 : TG) (tt1 : TT) (te : TE) (env : Ev) (kk : List Asn → Prop) : Prop := ∃ Inv : Nat → List Asn → Prop, Inv 0 [] ∧ (∀ (c' : Ct so) i A acc, As[i]? = some A → Inv i acc → GV c' vs g A (unE env vs) fun env1 => NoOwns env1 vs1 ∧ T c' tt env1 fun b env2 => env2 = env1 ∧ if b = true then LcI c' wi1 vs1 g1 tt1 te env1 acc (Inv (i + 1)) else Inv (i + 1) acc) ∧ ∀ acc, Inv As.length acc → kk acc
theorem lcG2 {As : List Asn} {vs vs1 : List Nat} {wi1 : TI} {g1 : TG} {tt1 : TT} {kk : List Asn → Prop} (Inv : Nat → List Asn → Prop) (h0 : Inv 0 []) (hs : ∀ (c' : Ct so) i A acc, As[i]? = some A → Inv i acc → GV c' vs g A (unE env vs) fun env1 => NoOwns env1 vs1 ∧ T c' tt env1 fun b env2 => env2 = env1 ∧ if b = true then LcI c' wi1 vs1 g1 tt1 te env1 acc (Inv (i + 1)) else Inv (i + 1) acc) (hd : ∀ acc, Inv As.length acc → kk acc) : LcG2 c As vs g tt wi1 vs1 g1 tt1 te env kk := ⟨Inv, h0, hs, hd⟩
theorem lcI {As1 : List Asn} {env1 : Ev} {vs1 : List Nat} {g1 : TG} {tt1 : TT} {acc : List Asn} {N : List Asn → Prop} (Inv1 : Nat → List Asn → Prop) (h0 : Inv1 0 acc) (hs : ∀ (c' : Ct so) j B acc, As1[j]? = some B → Inv1 j acc → GV c' vs1 g1 B (unE env1 vs1) fun env4 => LcS c' tt1 te env4 acc (Inv1 (j + 1))) (hd : ∀ acc, Inv1 As1.length acc → N acc) : env1 = env1 ∧ ∃ Inv1 : Nat → List Asn → Prop, Inv1 0 acc ∧ (∀ (c' : Ct so) j B acc, As1[j]? = some B → Inv1 j acc → GV c' vs1 g1 B (unE env1 vs1) fun env4 => LcS c' tt1 te env4 acc (Inv1 (j + 1))) ∧ ∀ acc, Inv1 As1.length acc → N acc := ⟨rfl, Inv1, h0, hs, hd⟩
theorem unE_no {env : Ev} : ∀ {vs : List Nat} {i : Nat}, i ∈ vs → NoOwn (unE env vs) i
  | [], _, m => by cases m
  | v :: vs, i, m => fun C z => by
    have z : ((unE env vs).set v .un)[i]? = some (.o C) := z
    by_cases e : v = i
    · subst e
      have l := (List.getElem?_eq_some_iff.mp z).1
      rw [List.getElem?_set_self (by rw [List.length_set] at l; exact l)] at z
      cases z
    · rw [List.getElem?_set_ne e] at z
      rcases List.mem_cons.mp m with h | h
      · exact e h.symm
      · exact unE_no h C z
theorem e_lc2G {wi wi1 : TI} {vs us vs1 us1 : List Nat} {g1 : TG} {tt1 : TT} (hu : us = vs) (hu1 : us1 = vs1) (h : IT c wi env fun As env1 => NoOwns env1 vs ∧ LcG2 c As vs g tt wi1 vs1 g1 tt1 te env1 fun acc => k (.o (Lc acc)) env1) : E c (tLc2 wi g tt wi1 g1 tt1 te us us1) env k := fun S σ H Q R z => by
  subst hu hu1
  refine h S σ H _ R fun S1 J H1 As env1 g1' e1 R1 q1 => ?_
  obtain ⟨no, Inv, i0, is, ie⟩ := g1'
  intro D nD
  have nn := no.all
  refine ⟨fun i m H' => m = As.length - i ∧ i ≤ As.length ∧ ∃ S' acc, Inv i acc ∧ Same S1 S' ∧ Fill c S' env1 σ H' D acc, ⟨As.length - 0, rfl, Nat.zero_le _, S1, [], i0, Same.refl S1, .new R1 nD⟩, ?_⟩
  rintro i m H' ⟨rfl, hi, S', acc, hI, e', F⟩
  by_cases zz : i = As.length
  · subst zz
    exact .inl ⟨(q1 c).stop S' env1 σ H' e' F.R, z S' _ H' _ env1 (ie acc hI) (e1.trans e') F.R F.done⟩
  · refine .inr ?_
    have hA : As[i]? = some (As[i]'(by omega)) := List.getElem?_eq_getElem (by omega)
    obtain ⟨ys, hD, hys⟩ := F.h
    have RH := F.R.hold hD (fun z => z) F.h0 F.hs F.no
    obtain ⟨gg1, gg2⟩ := (q1 (c.hold D (.lst ys))).go S' env1 σ H' i _ e' RH hA
    refine ⟨gg1, fun H2 => ∃ S2 acc', Inv (i + 1) acc' ∧ Same S1 S2 ∧ Fill c S2 env1 σ H2 D acc', fun H2 ⟨S2, acc', a, b, d⟩ => ⟨_, by omega, rfl, by omega, S2, acc', a, b, d⟩, fun x H2 hy => ?_⟩
    obtain ⟨S2, e2, R2, rA, _⟩ := gg2 x H2 hy
    refine is _ i _ acc hA hI S2 _ H2 x _ (R2.wiped us) rA fun σ3 env3 g3 R3 w3 n3 => ⟨w3.trans wipe_wipe, ?_⟩
    obtain ⟨nv0, g3⟩ := g3
    have nv1 := nv0.all
    have we : ∀ j, j ∉ us → env3[j]? = env1[j]? := fun j n => by rw [n3 j n, unE_out n]
    have ws : ∀ j, j ∉ us → σ3[j]? = σ[j]? := fun j n => wipe_out_eq (w3.trans wipe_wipe) n
    have back : ∀ {S4 H4}, Same S2 S4 → Rep c S4 env3 σ3 H4 → Rep c S4 env1 σ H4 := fun e4 R4 => (R2.unhold F.hg).backV e4 nn R4 we ws
    refine g3 S2 σ3 H2 _ R3 fun S4 b H4 env4 g4 e4 R4 => ?_
    obtain ⟨rfl, g4⟩ := g4
    have d4 := R4.held
    cases b with
    | false =>
      rw [if_neg (by decide)] at g4 ⊢
      exact ⟨S4, acc, g4, e'.trans (e2.trans e4), back e4 (R4.unhold F.hg), ⟨ys, d4.1, hys.up (e2.trans e4)⟩, F.h0, d4.2.2.1, F.hg, F.no⟩
    | true =>
      rw [if_pos rfl] at g4 ⊢
      refine g4 S4 σ3 H4 _ R4 fun S5 J1 H5 As1 env5 g5 e5 R5 q5 => ?_
      obtain ⟨rfl, Inv1, j0, js, je⟩ := g5
      have d5 := R5.held
      have e25 := e4.trans e5
      refine ⟨fun j m H' => m = As1.length - j ∧ j ≤ As1.length ∧ ∃ S' acc, Inv1 j acc ∧ Same S5 S' ∧ Fill c S' env5 σ3 H' D acc, ⟨As1.length - 0, rfl, Nat.zero_le _, S5, acc, j0, Same.refl S5, R5.unhold F.hg, ⟨ys, d5.1, hys.up (e2.trans e25)⟩, F.h0, d5.2.2.1, F.hg, d5.2.2.2.2⟩, ?_⟩
      rintro j m H6 ⟨rfl, hj, S6, acc6, hJ, e6, F6⟩
      by_cases zj : j = As1.length
      · subst zj
        exact .inl ⟨(q5 c).stop S6 env5 σ3 H6 e6 F6.R, S6, acc6, je acc6 hJ, e'.trans (e2.trans (e25.trans e6)), back (e25.trans e6) F6.R, F6.h, F6.h0, F6.hs, F6.hg, F.no⟩
      · refine .inr ?_
        have hB : As1[j]? = some (As1[j]'(by omega)) := List.getElem?_eq_getElem (by omega)
        obtain ⟨ys6, hD6, hys6⟩ := F6.h
        have RH6 := F6.R.hold hD6 (fun z => z) F6.h0 F6.hs F6.no
        obtain ⟨gj1, gj2⟩ := (q5 (c.hold D (.lst ys6))).go S6 env5 σ3 H6 j _ e6 RH6 hB
        refine ⟨gj1, fun H2 => ∃ S2 acc', Inv1 (j + 1) acc' ∧ Same S5 S2 ∧ Fill c S2 env5 σ3 H2 D acc', fun H2 ⟨S2, acc', a, b, d⟩ => ⟨_, by omega, rfl, by omega, S2, acc', a, b, d⟩, fun x7 H7 hy7 => ?_⟩
        obtain ⟨S7, e7, R7, rB, _⟩ := gj2 x7 H7 hy7
        refine js _ j _ acc6 hB hJ S7 _ H7 x7 _ (R7.wiped us1) rB fun σ8 env8 g8 R8 w8 n8 => ⟨w8.trans wipe_wipe, ?_⟩
        refine lcs_run g8 R8 (hys6.up e7) F.hg fun S9 H9 acc' ys' hN e9 R9 hD9 hy9 hs9 => ?_
        have R9' := (R7.unhold F.hg).backV e9 nv1 R9 (fun j n => by rw [n8 j n, unE_out n]) (fun j n => wipe_out_eq (w8.trans wipe_wipe) n)
        exact ⟨S9, acc', hN, e6.trans (e7.trans e9), R9', ⟨ys', hD9, hy9⟩, F.h0, hs9, F.hg, F6.no⟩
/-! ### within a comprehension's block: the fragment by its name -/
section
variable {X : Cx} {K : PySem.W.Frag} {tg e : Expr} {tl : TE} {ta : TA}
theorem pi_listK (hK : X.K = K) (h : PE X e tl) : PI X tg e (iList K tl) := hK ▸ pi_list h
theorem pi_tupK (hK : X.K = K) (h : PE X e tl) : PI X tg e (iTup K tl) := hK ▸ pi_tup h
theorem pi_seqK (hK : X.K = K) (h : PE X e tl) : PI X tg e (Vb.iSeq K tl) := hK ▸ Vb.pi_seq h
theorem pi_zipK {e2 : Expr} {p pos tpos : Pos} {elts : List Expr} {kk : Nat} (hK : X.K = K) (hg : Gl X "zip") (hm : X.mg "zip" = none) (ha : PA X [e, e2] ta) (hs : starEach [e, e2] X.env = (false, eval e X.env) :: starEach [e2] X.env := by rfl) (hpl : (backTo pos (starEach [e2] X.env)).any (·.1) = false := by rfl) : PI X (.Tuple elts kk tpos) (.Call (.Name "zip" p) [e, e2] [] pos) (Vb.iZipB K ta) := hK ▸ Vb.pi_zipB hg hm ha hs hpl
end
/-! ### small things -/
theorem pa_starX {X : Cx} {K : PySem.W.Frag} (hK : X.K = K) {e : Expr} {es : List Expr} {te : TE} {t : TA} {p : Pos} (he : PE X e te) (hr : PA X es t) (hs : starEach (.Starred e p :: es) X.env = (true, eval e X.env) :: starEach es X.env) : PA X (.Starred e p :: es) (StX.tStar K te t) := hK ▸ StX.pa_star he hr hs
theorem a_star {te : TE} {t : TA} {ka : List Rs → Ev → Prop} (h : E c te env fun r env1 => Z r fun r1 => Fz [r1] env1 fun Bs env2 => ∃ A As, Bs = [A] ∧ SqOf K A As ∧ EA c t env2 fun rs env3 => ka (As.map Rs.v ++ rs) env3) : EA c (StX.tStar K te t) env ka := fun S σ H Q R z => by
  refine h S σ H _ R fun S1 x H1 r env1 g1 e1 R1 q1 => ?_
  obtain ⟨r1, S2, g2, d2, e2, R2, q2⟩ := g1.go R1 q1
  obtain ⟨S3, Bs, env3, ⟨A, As, rfl, hA, g3⟩, e3, R3, q3⟩ := g2.go (xs := [x]) R2 (fun _ => ⟨⟨d2, q2.up d2 (Same.refl S2)⟩, trivial⟩) S2 (Same.refl S2)
  obtain ⟨a, xs, rfl, s, g⟩ := hA _ _ q3.1
  refine ⟨a, xs, rfl, s.elim (fun s => .inr (Vb.sq_of (R3.sh _ _ s))) (fun s => .inl (Vb.sqd R3.sh s)), ?_⟩
  refine g3 S3 σ H1 _ R3 fun S4 ys H4 rs env4 g4 e4 R4 q4 => ?_
  refine z S4 (xs ++ ys) H4 _ env4 g4 (e1.trans (e2.trans (e3.trans e4))) R4 ?_
  have go : ∀ {As : List Asn} {xs : List V}, All S3 As xs → Oks c S4 H4 env4 σ (As.map Rs.v ++ rs) (xs ++ ys) := by
    intro As
    induction As with
    | nil =>
      intro xs h
      cases xs with
      | nil => exact q4
      | cons => exact h.elim
    | cons B As ih =>
      intro xs h
      cases xs with
      | nil => exact h.elim
      | cons x xs => exact ⟨⟨trivial, B.up e4 h.1⟩, ih h.2⟩
  exact go g
theorem fz_vs {rs : List Rs} {kk : List Asn → Ev → Prop} : ∀ {As : List Asn}, (Fz rs env fun Bs e => kk (As ++ Bs) e) → Fz (As.map Rs.v ++ rs) env kk
  | [], h => h
  | A :: As, h => fz_vs (kk := fun Bs e => kk (A :: Bs) e) (As := As) h
theorem q_star {A : Asn} {As : List Asn} {Q : List Asn → Prop} (h : SqOf K A As) (q : Q As) : ∃ A' As', [A] = [A'] ∧ SqOf K A' As' ∧ Q As' := ⟨A, As, rfl, h, q⟩
theorem q_seqR {A : Asn} {As : List Asn} {Q : List Asn → Prop} (h : SqOf K A As) (q : Q As) : ∃ A' As', [A] = [A'] ∧ SqOf K A' As' ∧ Q As' := ⟨A, As, rfl, h, q⟩
theorem q_zip {A B : Asn} {As Bs : List Asn} {Q : List Asn → List Asn → Prop} (h1 : SqOf K A As) (h2 : SqOf K B Bs) (q : Q As Bs) : ∃ A' B' As' Bs', [A, B] = [A', B'] ∧ SqOf K A' As' ∧ SqOf K B' Bs' ∧ Q As' Bs' := ⟨A, B, As, Bs, rfl, h1, h2, q⟩
theorem q_lst {As : List Asn} {Q : List Asn → Prop} (q : Q As) : ∃ As', [L As] = [L As'] ∧ Q As' := ⟨As, rfl, q⟩
theorem q_tpl {As : List Asn} {Q : List Asn → Prop} (q : Q As) : ∃ As', Rs.v (Tu K As) = .v (Tu K As') ∧ Q As' := ⟨As, rfl, q⟩
theorem q_tplA {As : List Asn} {Q : List Asn → Prop} (q : Q As) : ∃ As', [Rs.v (Tu K As)] = [.v (Tu K As')] ∧ Q As' := ⟨As, rfl, q⟩
theorem q_n1 {m : Int} {Q : Int → Prop} (b : -(2 ^ 62) ≤ m ∧ m < 2 ^ 62) (q : Q m) : ∃ n, [Rs.v (I m)] = [.v (I n)] ∧ (-(2 ^ 62) ≤ n ∧ n < 2 ^ 62) ∧ Q n := ⟨m, rfl, b, q⟩
theorem q_n2 {a b : Int} {Q : Int → Int → Prop} (h : (-(2 ^ 62) ≤ a ∧ a < 2 ^ 62 ∧ -(2 ^ 62) ≤ b ∧ b < 2 ^ 62) ∨ b ≤ a) (q : Q a b) : ∃ lo hi, [Rs.v (I a), .v (I b)] = [.v (I lo), .v (I hi)] ∧ ((-(2 ^ 62) ≤ lo ∧ lo < 2 ^ 62 ∧ -(2 ^ 62) ≤ hi ∧ hi < 2 ^ 62) ∨ hi ≤ lo) ∧ Q lo hi := ⟨a, b, rfl, h, q⟩
/-- over lo, lo + 1, .. -/
theorem lpR {n : Nat} {lo : Int} (Inv : Nat → Ev → Prop) (h0 : Inv 0 env) (hs : ∀ i env, i < n → Inv i env → G c g (.v (I (lo + (i : Nat)))) env fun env1 => W c ts env1 ⟨Inv (i + 1), rt, nx, Inv (i + 1)⟩) (hd : ∀ env, Inv n env → nx env) : LoopL c (rngA lo n) g ts env ⟨nx, rt, bk, ct⟩ := ⟨Inv, h0, fun i A env h q => by
  have li := (List.getElem?_eq_some_iff.mp h).1
  rw [rng_len] at li
  unfold rngA at h
  rw [List.getElem?_map, List.getElem?_range li] at h
  cases h
  exact hs i env li q, fun env q => hd env (by rw [rng_len] at q; exact q)⟩
end
end Pu
namespace Pu
open PySem PySem.Spec PyProof.Rows L2
theorem getM {α β : Type} {f : α → β} {xs : List α} {i : Nat} {y : β} (h : (xs.map f)[i]? = some y) : ∃ x, xs[i]? = some x ∧ y = f x := by
  rw [List.getElem?_map] at h
  cases e : xs[i]? with
  | none => rw [e] at h; cases h
  | some x => rw [e] at h; exact ⟨x, rfl, (Option.some.inj h).symm⟩
theorem getR {n i x : Nat} (h : (List.range n)[i]? = some x) : x = i ∧ i < n := by
  have l := (List.getElem?_eq_some_iff.mp h).1
  rw [List.length_range] at l
  rw [List.getElem?_range l] at h
  exact ⟨(Option.some.inj h).symm, l⟩
section
variable {so : Option Addr} {c : Ct so} {K : PySem.W.Frag} {env : Ev} {k : Rs → Ev → Prop} {te tl : TE} {t : TA} {tt tt1 : TT} {ts : TS} {g g1 : TG} {nx : Ev → Prop} {rt : Rs → Prop} {bk ct : Ev → Prop} {wi1 : TI} {vs vs1 : List Nat} {kk : List Asn → Prop}
theorem q_nos {Q : Prop} (h : NoOwns env vs) (q : Q) : NoOwns env vs ∧ Q := ⟨h, q⟩
theorem q_tt {Q : Prop} (q : Q) : true = true ∧ Q := ⟨rfl, q⟩
theorem q_eqE {Q : Prop} (q : Q) : env = env ∧ Q := ⟨rfl, q⟩
theorem GV.imp {A : Asn} {k1 k2 : Ev → Prop} (h : GV c vs g A env k1) (q : ∀ e, k1 e → k2 e) : GV c vs g A env k2 := fun S σ H x Q R r z => h S σ H x Q R r fun σ' env' a => z σ' env' (q _ a)
theorem IT.imp {wi : TI} {k1 k2 : List Asn → Ev → Prop} (h : IT c wi env k1) (q : ∀ a e, k1 a e → k2 a e) : IT c wi env k2 := fun S σ H R r z => h S σ H R r fun S' J H' As env' a => z S' J H' As env' (q _ _ a)
theorem T.imp {k1 k2 : Bool → Ev → Prop} (h : T c tt env k1) (q : ∀ a e, k1 a e → k2 a e) : T c tt env k2 := fun S σ H R r z => h S σ H R r fun S' J H' env' a => z S' J H' env' (q _ _ a)
/-- one item for each -/
theorem lcG_map {α : Type} {f h : α → Asn} {xs : List α} (l : xs.length ≤ 16777216) (hs : ∀ (c' : Ct so) (i : Nat) (x : α), xs[i]? = some x → GV c' vs g (f x) (unE env vs) fun env1 => E c' te env1 fun r e => Z r fun r1 => Fz [r1] e fun Bs e' => Bs = [h x] ∧ e' = env1) (hd : kk (xs.map h)) : LcG c (xs.map f) vs g tYes te env kk := by
  refine lcG (fun i acc => acc = (xs.take i).map h) rfl ?_ ?_
  · rintro c' i A acc hA rfl
    rw [List.getElem?_map] at hA
    cases hx : xs[i]? with
    | none => rw [hx] at hA; cases hA
    | some x =>
      rw [hx] at hA
      cases hA
      have li := (List.getElem?_eq_some_iff.mp hx).1
      refine (hs c' i x hx).imp fun env1 z => lcs_yes (z.imp fun _ _ z => Z.imp (fun _ z => Fz.imp (fun _ _ ⟨h1, h2⟩ => ⟨h x, h x, h1, Imp.rfl, h2, by rw [List.length_map, List.length_take]; omega, ?_⟩) z) z)
      rw [List.take_add_one, hx, List.map_append]
      rfl
  · rintro acc rfl
    rw [List.length_map, List.take_length]
    exact hd
/-- those that pass the test -/
theorem lcG_filter {α : Type} {f h : α → Asn} {p : α → Bool} {xs : List α} (l : xs.length ≤ 16777216) (hs : ∀ (c' : Ct so) (i : Nat) (x : α), xs[i]? = some x → GV c' vs g (f x) (unE env vs) fun env1 => T c' tt env1 fun b e0 => b = p x ∧ e0 = env1 ∧ (p x = true → E c' te env1 fun r e => Z r fun r1 => Fz [r1] e fun Bs e' => Bs = [h x] ∧ e' = env1)) (hd : kk ((xs.filter p).map h)) : LcG c (xs.map f) vs g tt te env kk := by
  refine lcG (fun i acc => acc = ((xs.take i).filter p).map h) rfl ?_ ?_
  · rintro c' i A acc hA rfl
    rw [List.getElem?_map] at hA
    cases hx : xs[i]? with
    | none => rw [hx] at hA; cases hA
    | some x =>
      rw [hx] at hA
      cases hA
      have li := (List.getElem?_eq_some_iff.mp hx).1
      have tk : (xs.take (i + 1)).filter p = (xs.take i).filter p ++ if p x then [x] else [] := by
        rw [List.take_add_one, hx, List.filter_append]
        congr 1
        show [x].filter p = _
        rw [List.filter_cons, List.filter_nil]
      refine (hs c' i x hx).imp fun env1 z => T.imp z fun b e0 ⟨hb, he, z⟩ => ?_
      subst hb he
      by_cases hp : p x = true
      · rw [if_pos hp]
        refine (z hp).imp fun _ _ z => Z.imp (fun _ z => Fz.imp (fun _ _ ⟨h1, h2⟩ => ⟨h x, h x, h1, Imp.rfl, h2, ?_, ?_⟩) z) z
        · rw [List.length_map]
          exact Nat.lt_of_le_of_lt (List.length_filter_le _ _) (by rw [List.length_take]; omega)
        · rw [tk, if_pos hp, List.map_append]
          rfl
      · rw [if_neg hp]
        exact ⟨rfl, by rw [tk, if_neg hp, List.append_nil]⟩
  · rintro acc rfl
    rw [List.length_map, List.take_length]
    exact hd
/-- one item for each pair -/
theorem lcG2_map {α β : Type} {f : α → Asn} {xs : List α} (ys : α → List β) (ga : α → β → Asn) (h : α → β → Asn) (l : (xs.flatMap ys).length ≤ 16777216) (hs : ∀ (c' : Ct so) (i : Nat) (x : α), xs[i]? = some x → GV c' vs g (f x) (unE env vs) fun env1 => NoOwns env1 vs1 ∧ T c' tt env1 fun b env2 => env2 = env1 ∧ b = true ∧ IT c' wi1 env1 fun As1 env3 => env3 = env1 ∧ As1 = (ys x).map (ga x) ∧ ∀ (c' : Ct so) (j : Nat) (y : β), (ys x)[j]? = some y → GV c' vs1 g1 (ga x y) (unE env1 vs1) fun env4 => E c' te env4 fun r e => Z r fun r1 => Fz [r1] e fun Bs e' => Bs = [h x y] ∧ e' = env4) (hd : kk (xs.flatMap fun x => (ys x).map (h x))) : LcG2 c (xs.map f) vs g tt wi1 vs1 g1 tYes te env kk := by
  have pre : ∀ i, ((xs.take i).flatMap ys).length ≤ (xs.flatMap ys).length := fun i => by
    have e : xs.flatMap ys = (xs.take i).flatMap ys ++ (xs.drop i).flatMap ys := by rw [← List.flatMap_append, List.take_append_drop]
    rw [e, List.length_append]
    omega
  have ml : ∀ zs : List α, (zs.flatMap fun x => (ys x).map (h x)).length = (zs.flatMap ys).length := fun zs => by
    induction zs with
    | nil => rfl
    | cons z zs ih => rw [List.flatMap_cons, List.flatMap_cons, List.length_append, List.length_append, ih, List.length_map]
  refine lcG2 (fun i acc => acc = (xs.take i).flatMap fun x => (ys x).map (h x)) rfl ?_ ?_
  · rintro c' i A acc hA rfl
    rw [List.getElem?_map] at hA
    cases hx : xs[i]? with
    | none => rw [hx] at hA; cases hA
    | some x =>
      rw [hx] at hA
      cases hA
      have tk : ∀ {γ : Type} (F : α → List γ), (xs.take (i + 1)).flatMap F = (xs.take i).flatMap F ++ F x := fun F => by
        rw [List.take_add_one, hx, List.flatMap_append]
        show _ ++ ([x].flatMap F) = _
        rw [List.flatMap_cons, List.flatMap_nil, List.append_nil]
      refine (hs c' i x hx).imp fun env1 ⟨no, z⟩ => ⟨no, T.imp z fun b e0 ⟨he, hb, z⟩ => ?_⟩
      subst hb he
      refine ⟨rfl, ?_⟩
      rw [if_pos rfl]
      refine IT.imp z fun As1 e3 ⟨he, hAs, z⟩ => ?_
      subst he hAs
      refine lcI (fun j acc => acc = ((xs.take i).flatMap fun x => (ys x).map (h x)) ++ ((ys x).take j).map (h x)) (by rw [List.take_zero]; exact (List.append_nil _).symm) ?_ ?_
      · rintro c2 j B acc hB rfl
        rw [List.getElem?_map] at hB
        cases hy : (ys x)[j]? with
        | none => rw [hy] at hB; cases hB
        | some y =>
          rw [hy] at hB
          cases hB
          have lj := (List.getElem?_eq_some_iff.mp hy).1
          have bd := pre (i + 1)
          rw [tk, List.length_append] at bd
          refine (z c2 j y hy).imp fun env4 w => lcs_yes (w.imp fun _ _ w => Z.imp (fun _ w => Fz.imp (fun _ _ ⟨h1, h2⟩ => ⟨h x y, h x y, h1, Imp.rfl, h2, ?_, ?_⟩) w) w)
          · rw [List.length_append, ml, List.length_map, List.length_take]
            omega
          · rw [List.take_add_one, hy, List.map_append, List.append_assoc]
            rfl
      · rintro acc rfl
        rw [List.length_map, List.take_length, tk]
  · rintro acc rfl
    rw [List.length_map, List.take_length]
    exact hd
end
end Pu
namespace Pu
open PySem PySem.Spec PyProof.Rows L2
/-! ### tuples: + and sorted -/
section
variable {so : Option Addr} {c : Ct so} {K : PySem.W.Frag} {env : Ev} {k : Rs → Ev → Prop}
theorem all_nil {S : Hp} {As : List Asn} {vs : List V} (h : All S As vs) (e : vs = []) : As = [] := by
  cases As with
  | nil => rfl
  | cons A As => subst e; exact h.elim
theorem r_catT {As Bs : List Asn} (l : As.length + Bs.length ≤ 16777216) (q : k (.v (Tu K (As ++ Bs))) env) : R2 c (rCatA K) (.v (Tu K As)) (.v (Tu K Bs)) env k := fun S σ H x y Q R _ _ qx qy z => by
  obtain ⟨a, xs, rfl, s1, g1⟩ := qx
  obtain ⟨b, ys, rfl, s2, g2⟩ := qy
  refine ⟨a, b, xs, ys, rfl, rfl, Vb.sqd R.sh s1, Vb.sqd R.sh s2, by rw [← g1.len, ← g2.len]; exact Vb.size_ok l, fun e => ?_, fun _ e => ?_, fun _ _ p np => ?_⟩
  · have := all_nil g1 e
    subst this
    exact z S _ H (.v (Tu K ([] ++ Bs))) env q (Same.refl S) R ⟨b, ys, rfl, s2, g2⟩
  · have := all_nil g2 e
    subst this
    exact z S _ H (.v (Tu K (As ++ []))) env q (Same.refl S) R ⟨a, xs, rfl, s1, by rw [List.append_nil]; exact g1⟩
  · have es := Vb.same_new (o := .tup (xs ++ ys)) (R.s_none np)
    exact z _ _ _ (.v (Tu K (As ++ Bs))) env q es (R.new np) ⟨p, _, rfl, upd_same, (g1.app g2).up es⟩
def rSortTu (K : PySem.W.Frag) : List V → Hp → VK → Prop := fun vs H Q => ∃ (d : Nat) (B : Int), 1 ≤ d ∧ rSortU K d B vs H Q
theorem cr_sortTu {X : Cx} : CallR X (.builtin "sorted") (rSortTu X.K) := by
  intro pins s σ H vs us Q I r h
  obtain ⟨d, B, hd, h⟩ := h
  exact cr_sortT hd pins s σ H vs us Q I r h
/-- another order of the values is another order of what is said of them -/
theorem perm_lift {α β : Type} {g : α → β} : ∀ {ps : List α} {ys : List β}, ys.Perm (ps.map g) → ∃ qs : List α, qs.Perm ps ∧ ys = qs.map g := fun {ps ys} h => by
  generalize e : ps.map g = xs at h
  induction h generalizing ps with
  | nil => exact ⟨[], by rw [List.map_eq_nil_iff.mp e], rfl⟩
  | cons x h ih =>
    cases ps with
    | nil => cases e
    | cons p ps =>
      rw [List.map_cons, List.cons.injEq] at e
      obtain ⟨e1, e2⟩ := e
      obtain ⟨qs, h1, h2⟩ := ih e2
      exact ⟨p :: qs, h1.cons p, by rw [List.map_cons, e1, h2]⟩
  | swap x y l =>
    cases ps with
    | nil => cases e
    | cons p ps =>
      cases ps with
      | nil => cases e
      | cons p' ps =>
        simp only [List.map_cons, List.cons.injEq] at e
        obtain ⟨e1, e2, e3⟩ := e
        exact ⟨p' :: p :: ps, List.Perm.swap .., by rw [List.map_cons, List.map_cons, e1, e2, e3]⟩
  | trans h1 h2 ih1 ih2 =>
    obtain ⟨qs, a, b⟩ := ih2 e
    obtain ⟨rs, a', b'⟩ := ih1 b.symm
    exact ⟨rs, a'.trans a, b'⟩
/-- sorted(rows), fewer than 64 tuples of d numbers in [0, B) -/
theorem r_sortT {r : Rs} {rows : List (List Int)} (d : Nat) (B : Int) (h : IsL env r (rows.map fun ns => Tu K (ns.map I))) (hd : 1 ≤ d) (l : rows.length < 64) (hb : ∀ ns ∈ rows, ns.length = d ∧ TS.Bd B ns) (q : ∀ rs : List (List Int), rs.Perm rows → rs.Pairwise (fun a b => TS.code B a ≤ TS.code B b) → k (.o (Lc (rs.map fun ns => Tu K (ns.map I)))) env) : RL c (rSortTu K) [r] env k := fun S σ H xs Q R qs z => by
  obtain _ | ⟨x', _ | ⟨y', xs⟩⟩ := xs
  · exact qs.elim
  · obtain ⟨a, ys, rfl, s, g⟩ := h.go R qs.1.2
    obtain ⟨ps, e1, e2, hp⟩ : ∃ ps : List (List Int × V), ps.map Prod.fst = rows ∧ ps.map Prod.snd = ys ∧ ∀ p ∈ ps, (Tu K (p.1.map I)).r S p.2 := by
      clear h l hb q s
      induction rows generalizing ys with
      | nil => cases ys with | nil => exact ⟨[], rfl, rfl, fun p m => by cases m⟩ | cons => exact g.elim
      | cons ns rows ih =>
        cases ys with
        | nil => exact g.elim
        | cons y ys =>
          obtain ⟨ps, e1, e2, hp⟩ := ih ys g.2
          exact ⟨(ns, y) :: ps, by rw [List.map_cons, e1], by rw [List.map_cons, e2], fun p m => by
            rcases List.mem_cons.mp m with rfl | m
            · exact g.1
            · exact hp p m⟩
    have tup : ∀ {ns : List Int} {v : V}, (Tu K (ns.map I)).r S v → TupI K H v ns := fun {ns v} ⟨t, us, e, s, g⟩ => ⟨t, e, by rw [← All.ints g]; exact Vb.sqd R.sh s⟩
    have ly : ys.length = rows.length := by rw [← e1, ← e2, List.length_map, List.length_map]
    refine ⟨d, B, hd, a, ys, rfl, Vb.sq_of s, by omega, fun v m => ?_, fun zs p pm pw np => ?_⟩
    · rw [← e2] at m
      obtain ⟨p, mp, rfl⟩ := List.mem_map.mp m
      have := hb p.1 (by rw [← e1]; exact List.mem_map.mpr ⟨p, mp, rfl⟩)
      exact ⟨p.1, tup (hp p mp), this.1, this.2⟩
    · rw [← e2] at pm
      obtain ⟨qs, h1, rfl⟩ := perm_lift pm
      have hq : ∀ p ∈ qs, (Tu K (p.1.map I)).r S p.2 := fun p m => hp p (h1.mem_iff.mp m)
      have al : All S ((qs.map Prod.fst).map fun ns => Tu K (ns.map I)) (qs.map Prod.snd) := by
        clear h1 pm pw
        induction qs with
        | nil => trivial
        | cons q qs ih => exact ⟨hq q (List.mem_cons_self ..), ih fun p m => hq p (List.mem_cons_of_mem _ m)⟩
      refine newL R al (q (qs.map Prod.fst) (by rw [← e1]; exact h1.map _) ?_) (Same.refl S) z p np
      rw [List.pairwise_map] at pw ⊢
      exact List.Pairwise.imp_of_mem (fun {x y} mx my h => h _ _ (tup (hq x mx)) (tup (hq y my))) pw
  · exact qs.2.elim
end
end Pu
namespace Pu
open PySem PySem.Spec PyProof.Rows L2
/-! ### defs that are handed the error -/
def toSpE (φ : Addr → Addr → Option Addr → PSp) : Addr → Value → Option Addr → Sp := fun a cls d vs H Q E => ∃ D, cls = .ref D ∧ Core none (φ a D d) vs H Q E
section
variable {P : Program} {w : World} {K : PySem.W.Frag} {mg : Str → Option Value} {base : Heap}
theorem okPE {x qual : Str} {sd : Stmt} {f : Addr} {fd : FuncData} {N ps : List Str} {k : Nat} {φ : Addr → Addr → Option Addr → PSp} (F : Fun K x qual sd f fd) (S : FnScope N ps (defScope sd)) (hl : ps.length ≤ N.length := by decide) (len : ∀ a D d As k X, φ a D d As k X → As.length = ps.length)
    (hbody : ∀ (cdv : Value) (A : Around) (fr : List _root_.PySem.Env) (s : Shared) (H : Hp) (E : XK) (e : Addr × Obj) (D : Addr) (d : Option Addr) (c : Ct none) (As : List Asn) (kk : Rs → Prop) (X : XP), L2N.Zn (.ref D) d e.2 → (∃ vs, e.2.data = .fields vs) → L2H.RoomH k (A.deeper (envOfC qual (defScope sd) s.heap.objs.size f cdv)) → L2H.HotC (L2H.cxH CX0 P w K mg base N qual (defScope sd) f cdv A fr s H E e) → ExOk c (fun _ => X) (fun _ => E) → φ e.1 D d As kk X →
      ∃ t, PSs (L2H.cxH CX0 P w K mg base N qual (defScope sd) f cdv A fr s H E e) (defBody sd) t ∧ W c t (envOf N.length (As.map Sl.v)) ⟨fun _ => kk (.v No), kk, fun _ => False, fun _ => False⟩) : Vb.FnE P w K mg base (k + 1) f fd ps (toSpE φ) := by
  refine Vb.okE2 F S (fun {a cls d vs H Q E} h => ?_) (fun cdv A fr s H vs Q E e cls d hz hf hr hot h => ?_)
  · obtain ⟨D, rfl, B, As, kk, X, p, _, a, _⟩ := h
    rw [← a.len]
    exact len _ _ _ _ _ _ p
  · obtain ⟨D, rfl, B, As, kk, X, p, b, a, _, q1, q2⟩ := h
    have l : vs.length ≤ N.length := by rw [← a.len, len _ _ _ _ _ _ p]; exact hl
    have R := rep0 (so := none) (N := N) l a b (fun _ z => by cases z)
    obtain ⟨t, h1, h2⟩ := hbody cdv A fr s H E e D d ⟨B, H, fun _ => none⟩ As kk X hz hf hr hot (fun S' env σ H' C fs d g R' w => q2 C fs d S' H' g R'.nxt w) p
    refine ⟨t, h1, h2 _ _ _ _ R ⟨fun S' env σ H' g _ R' => q1 S' _ .non H' g R'.nxt rfl, fun S' env σ H' r x g _ R' w => q1 S' r x H' g R'.nxt (rt_of w), fun _ _ _ _ z => z.elim, fun _ _ _ _ z => z.elim⟩⟩
/-! ### the law itself: it makes the store first -/
theorem okLaw {x qual : Str} {sd : Stmt} {f : Addr} {fd : FuncData} {N : List Str} {k : Nat} {stsp : Sp} (F : Fun K x qual sd f fd) (S : FnScope N ["script"] (defScope sd)) (hl : 2 ≤ N.length := by decide)
    (hst : ∀ (a : Addr) (ns : List Int) (H : Hp) (Q : VK) (E : XK), SqL K H a (ns.map V.int) → ns.length ≤ 1000000 → (∀ (st : Addr) (H' : Hp), H st = none → Same H H' → Vb.StoreAt H' st → Q (.ref st) H') → stsp [.ref a] H Q E)
    (hbody : ∀ (cdv : Value) (A : Around) (outer : List _root_.PySem.Env) (s : Shared) (H : Hp) (E : XK), Room k (A.deeper (envOfC qual (defScope sd) s.heap.objs.size f cdv)) →
      ∃ t Ex, PSs (cxOf (L2N.CX P w) P w K mg base N qual (defScope sd) f cdv A outer s H E) (defBody sd) (tSeq (tAsg (tCallS stsp Ex (tCons (tVar 0) tNil)) (gName 1)) t) ∧ ∀ (st : Addr) (c : Ct (some st)), ExOk c (fun _ _ _ => False) (fun _ => E) → W c t (envOf N.length [.un, .v (Rf st)]) ⟨fun _ => False, fun r => r = .v (Bo true), fun _ => False, fun _ => False⟩) : FnOk P w K mg base (L2N.CX P w) (k + 1) f fd ["script"] (fun vs H Q _ => ∃ (a : Addr) (ns : List Int), vs = [.ref a] ∧ SqL K H a (ns.map V.int) ∧ ns.length ≤ 63 ∧ ∀ H' : Hp, Q (.bl true) H') := by
  refine Vb.okN F S (fun vs H Q E h => ?_) (fun cdv A outer s H vs Q E hr h => ?_)
  · obtain ⟨a, ns, rfl, _⟩ := h
    rfl
  · obtain ⟨a, ns, rfl, ha, hn, q⟩ := h
    obtain ⟨t, Ex, h1, h2⟩ := hbody cdv A outer s H E hr
    refine ⟨_, h1, ?_⟩
    obtain ⟨N0, N1, N', rfl⟩ : ∃ a b l, N = a :: b :: l := by
      obtain _ | ⟨a, _ | ⟨b, l⟩⟩ := N
      · cases hl
      · exact absurd hl (by simp)
      · exact ⟨a, b, l, rfl⟩
    refine Vb.r_seq (Vb.r_set (Vb.r_callS (Vb.r_cons (Vb.r_var (v := .ref a) rfl (Vb.r_nil (hst a ns H _ _ ha (by omega) fun st H1 n1 e1 S1 => ?_))))))
    let B : Hp := fun _ => none
    have R : Rep (⟨B, H1, fun _ => none⟩ : Ct (some st)) B (envOf (N0 :: N1 :: N').length [.un, .v (Rf st)]) ((L2.start (N0 :: N1 :: N') [.ref a]).set 1 (some (.ref st))) H1 := by
      have nov : ∀ i p, ¬ Own (envOf (N0 :: N1 :: N').length [.un, .v (Rf st)]) ((L2.start (N0 :: N1 :: N') [.ref a]).set 1 (some (.ref st))) i p := by
        rintro i p ⟨⟨C, h⟩, _⟩
        unfold envOf at h
        match i, h with
        | 0, h => cases h
        | 1, h => cases h
        | i + 2, h =>
          rw [List.getElem?_append_right (by simp), List.getElem?_replicate] at h
          split at h
          · cases h
          · cases h
      refine ⟨Frm.refl fun st' e => by cases e; exact S1, Same.refl B, fun b o h => (by cases h), fun _ _ h => .inl h, fun _ _ => rfl, ?_, fun st' e => by cases e; exact S1, fun i sl h => ?_, fun i j p h => absurd h (nov i p), fun i p h => absurd h (nov i p), fun _ _ h => by cases h⟩
      · unfold envOf L2.start
        simp
      · unfold envOf at h
        match i, h with
        | 0, h => cases h; exact ⟨some (.ref a), rfl, trivial⟩
        | 1, h => cases h; exact ⟨some (.ref st), rfl, _, rfl, rfl⟩
        | i + 2, h =>
          rw [List.getElem?_append_right (by simp), List.getElem?_replicate] at h
          split at h
          · rename_i y
            cases h
            refine ⟨none, ?_, trivial⟩
            have z : (L2.start (N0 :: N1 :: N') [V.ref a])[i + 2]? = some none := by
              rw [start_get (by simp)]
              rw [if_neg (by simp), if_pos (by simp at y ⊢; omega)]
            rw [List.getElem?_set_ne (by omega)]
            exact z
          · cases h
    exact h2 st _ (fun _ _ _ _ _ _ _ z => z.elim) _ _ _ _ R ⟨fun _ _ _ _ z => z.elim, fun S' env σ H' r x g _ R' w => by cases g; cases (show x = .bl true from w); exact q H', fun _ _ _ _ z => z.elim, fun _ _ _ _ z => z.elim⟩
end
section
variable {so : Option Addr} {c : Ct so} {K K' : PySem.W.Frag} {env : Ev} {k : Rs → Ev → Prop}
theorem r_ixTk {z : Int} {As : List Asn} {A : Asn} (e0 : K' = K) (e : atI As z = some A) (q : k (.v A) env) : R2 c (rIxT K') (.v (Tu K As)) (.v (I z)) env k := by
  subst e0
  exact r_ixT e q
theorem r_catTk {As Bs : List Asn} (e0 : K' = K) (l : As.length + Bs.length ≤ 16777216) (q : k (.v (Tu K (As ++ Bs))) env) : R2 c (rCatA K') (.v (Tu K As)) (.v (Tu K Bs)) env k := by
  subst e0
  exact r_catT l q
end
theorem ite_dt {p : Prop} [Decidable p] {A B : Prop} (h : p) (a : A) : if decide p = true then A else B := by
  rw [if_pos (decide_eq_true h)]
  exact a
theorem ite_df {p : Prop} [Decidable p] {A B : Prop} (h : ¬ p) (b : B) : if decide p = true then A else B := by
  rw [if_neg (by simp [h])]
  exact b
theorem ix_tupK {X : Cx} {K : PySem.W.Frag} (hK : X.K = K) : IxR X (rIxT K) := by
  subst hK
  exact ix_tup
theorem ix_seqK {X : Cx} {K : PySem.W.Frag} (hK : X.K = K) : IxR X (rIx K) := by
  subst hK
  exact ix_seq
theorem W.ret {so : Option Addr} {c : Ct so} {env : Ev} {ts : TS} {nx : Ev → Prop} {rt : Rs → Prop} {bk ct : Ev → Prop} (h : W c ts env ⟨fun _ => False, rt, fun _ => False, fun _ => False⟩) : W c ts env ⟨nx, rt, bk, ct⟩ := fun S σ H d R e => h S σ H d R ⟨fun _ _ _ _ z => z.elim, e.rt, fun _ _ _ _ z => z.elim, fun _ _ _ _ z => z.elim⟩
theorem op_catK {X : Cx} {K : PySem.W.Frag} (e : X.K = K) : OpR X (binaryOp .Add) (rCatA K) := by
  subst e
  exact op_catA
section
variable {so : Option Addr} {c : Ct so} {K : PySem.W.Frag} {env : Ev} {k : Rs → Ev → Prop} {t : TA}
theorem e_callE {φ : Addr → Addr → Option Addr → PSp} {a D : Addr} {d : Option Addr} {Ex : L2.St → XK} (h : EA c t env fun rs env1 => Cl (φ a D d) rs env1 k fun _ _ _ => False) : E c (tCallS (toSpE φ a (.ref D) d) Ex t) env k := fun S σ H Q R z => by
  refine Vb.r_callS (h S σ H _ R fun S1 xs H1 rs env1 g1 e1 R1 q1 => ?_)
  exact ⟨D, rfl, Core.none R1.stf (g1.go (Ex := Ex) ExOk.none R1 q1 fun S' x H' r env' g e => z S' x H' r env' g (e1.trans e))⟩
/-- a callee within an except suite -/
theorem e_callH {φ : PSp} {Ex : L2.St → XK} (h : EA c t env fun rs env1 => Cl φ rs env1 k fun _ _ _ => False) : E c (tCallS (toSp φ) Ex t) env k := e_callS (X := fun _ _ _ => False) ExOk.none h
end
section
variable {so : Option Addr} {c : Ct so} {K : PySem.W.Frag} {env : Ev} {te tl : TE} {tt : TT} {kk : List Asn → Prop}
/-- those that pass the test (one name) -/
theorem lcM_filter {α : Type} {f h : α → Asn} {p : α → Bool} {xs : List α} {j : Nat} (l : xs.length ≤ 16777216) (hs : ∀ (c' : Ct so) (i : Nat) (x : α), xs[i]? = some x → T c' tt (env.set j (.v (f x))) fun b e0 => ∃ b', b = b' ∧ b' = p x ∧ e0 = env.set j (.v (f x)) ∧ (p x = true → E c' te (env.set j (.v (f x))) fun r e => Z r fun r1 => Fz [r1] e fun Bs e' => Bs = [h x] ∧ e' = env.set j (.v (f x)))) (hd : kk ((xs.filter p).map h)) : LcL c (xs.map f) j tt te env kk := by
  refine lcM (fun i acc => acc = ((xs.take i).filter p).map h) rfl ?_ ?_
  · rintro c' i x acc hx rfl
    have li := (List.getElem?_eq_some_iff.mp hx).1
    have tk : (xs.take (i + 1)).filter p = (xs.take i).filter p ++ if p x then [x] else [] := by
      rw [List.take_add_one, hx, List.filter_append]
      congr 1
      show [x].filter p = _
      rw [List.filter_cons, List.filter_nil]
    refine T.imp (hs c' i x hx) fun b e0 ⟨b', hb', hb, he, z⟩ => ?_
    subst hb' hb he
    by_cases hp : p x = true
    · rw [if_pos hp]
      refine (z hp).imp fun _ _ z => Z.imp (fun _ z => Fz.imp (fun _ _ ⟨h1, h2⟩ => ⟨h x, h x, h1, Imp.rfl, h2, ?_, ?_⟩) z) z
      · rw [List.length_map]
        exact Nat.lt_of_le_of_lt (List.length_filter_le _ _) (by rw [List.length_take]; omega)
      · rw [tk, if_pos hp, List.map_append]
        rfl
    · rw [if_neg hp]
      exact ⟨rfl, by rw [tk, if_neg hp, List.append_nil]⟩
  · rintro acc rfl
    rw [List.take_length]
    exact hd
end
end Pu
namespace Vb
open PySem PySem.Spec PyProof.Rows L2
/-! ### comprehensions of a def that is handed the error (an exception is being handled: an iterator's end is raised then) -/
section
variable {prog : Program} {w : World} {A : Around} {E : Value → Shared → Prop} {s : Shared}
theorem list_end_hot {it l x1 : Addr} {i : Nat} {items : Array Value} {Q : Option Value → Shared → Prop} (hot : HotX.HotAt A x1 s.heap) (hit : s.heap.IsListIter it l i) (hl : s.heap.IsList l items) (hx : items[i]? = none) (ne : x1 ≠ it)
    (hQ : ∀ h', (∀ b o, b ≠ it → s.heap.get? b = some o → h'.get? b = some o) → Q none { s with heap := h' }) : wpAny (model prog w) A (pyNext (.ref it)) Q E s := by
  obtain ⟨o, ho, hc, hd⟩ := id hit
  obtain ⟨ol, hol, _, nl, hdl⟩ := hl
  obtain ⟨hh, o1, vs1, h1, d1, c1⟩ := hot
  unfold pyNext
  refine wpAny_bind (wpAny_attempt (wpAny_callSpecial?_slot (name := Str.ofString "__next__") hit.typeIs slot_listiter_next (wpAny_call_entry slot_listiter_next hit.typeIs entry_listiter_next ?_ (args_listiter_next _))))
  show wpAny _ _ (field (.ref it) 0 >>= _) _ _ s
  refine wpAny_bind (wpAny_field ho hd (x := .ref l) rfl ?_)
  show wpAny _ _ (if (Value.ref l == Value.none) = true then _ else _) _ _ s
  rw [if_neg (show ¬ ((Value.ref l == Value.none) = true) from Bool.false_ne_true)]
  show wpAny _ _ (field (.ref it) 1 >>= _) _ _ s
  refine wpAny_bind (wpAny_field ho hd (x := .int i 0) rfl ?_)
  show wpAny _ _ (seqItems? (.ref l) >>= _) _ _ s
  refine wpAny_bind (wpAny_seqItems hol hdl ?_)
  simp only [Int.toNat_natCast, hx]
  refine wpAny_bind (wpAny_rule (wpAny_bind (wpAny_setField ho hd (by simp) ?_)))
  have other : ∀ b ob, b ≠ it → s.heap.get? b = some ob → (s.heap.update it (Obj.mapFields (·.setIfInBounds 0 .none))).get? b = some ob := fun b ob n e => by
    rw [Heap.get?_update_other _ _ (Ne.symm n)]
    exact e
  show wpAny _ _ (newExc (.type "StopIteration") [] >>= _) _ _ _
  refine wpAny_bind ?_
  simp only [newExc, newTuple]
  refine wpAny_bind (wpAny_newObj_type ?_ (by size_fits))
  refine wpAny_bind (m := firstArgMember _ _) (wpAny_of_eq (a := Value.none) (by first | rfl | (simp only [firstArgMember]; rfl)) ?_)
  refine wpAny_newObj_type ?_ (by size_fits)
  have h2 := other x1 o1 ne h1
  refine HotX.raiseNew_hot ⟨hh, o1, vs1, Heap.get?_push_of_some _ (Heap.get?_push_of_some _ h2), d1, c1⟩ (Nat.ne_of_lt (Heap.lt_size (Heap.get?_push_of_some _ h2))) (Heap.get?_push_size _ rfl) rfl (by first | (simp; done) | (simp; omega) | (simp only [Array.size_append]; simp; omega)) ?_
  refine wpAny_bind (wpAny_isInstance (T := "StopIteration") (b := true) ⟨_, Heap.get?_update_self _ (Heap.get?_push_size _ rfl) rfl, rfl⟩ isSubtype_stop ?_)
  refine wpAny_pure (hQ _ fun b ob n e => ?_)
  have e2 := other b ob n e
  rw [Heap.get?_update_other _ _ (Nat.ne_of_gt (Heap.lt_size (Heap.get?_push_of_some _ e2)))]
  exact Heap.get?_push_of_some _ (Heap.get?_push_of_some _ e2)
end
theorem turn_listH {P : Program} {w : World} {K : PySem.W.Frag} {tg : Expr} (a it : Addr) : L2H.TurnH P w K tg (Itl K a) [it] it (fun i h => h.IsListIter it a i) := by
  have T := turn_list (P := P) (w := w) (K := K) (tg := tg) a it
  refine ⟨T.mem, T.obj, T.keep, ?_, ?_, T.self⟩
  · intro X hP hw hK hc i pins s σ H E I hf st hg
    subst hP hw hK
    obtain ⟨xs, x, hq, hx⟩ := hg
    obtain ⟨its, rv, p, hz⟩ := I.list hq
    obtain ⟨u, hu, ru⟩ := rv.get hx
    obtain ⟨f0, f1, f2, f3, f4, f5⟩ := hf it (by simp)
    refine wpAny_pyNext_list_item st p.isList (x := u) (by simpa using hu) fun h' st' sb => ?_
    have I1 : Inv X pins σ H { s with heap := h' } := I.turned (t' := s.toks) (fun b o hb e => (sb.2 b hb).trans e) f0 f1 f3 f4 f5
    obtain ⟨o, e, c, d⟩ := id st'
    exact ⟨u, rfl, go_of (s := { s with heap := h' }) e c d (by decide) ⟨x, H, I1, ru, ⟨rfl, fun ys hy => by rw [I.list_inj hy hq]; exact hx⟩, st', fun b hb => (hf b hb).1⟩⟩
  · intro X hP hw hK hc i pins s σ H E I hf st hg
    subst hP hw hK
    obtain ⟨xs, hq, hx⟩ := hg
    obtain ⟨its, rv, p, hz⟩ := I.list hq
    obtain ⟨f0, f1, f2, f3, f4, f5⟩ := hf it (by simp)
    have hl := rv.length
    obtain ⟨q, ⟨hh, v1, e1, c1⟩, hp⟩ := hc
    exact list_end_hot ⟨hh, q.2, v1, (I.pin q (List.mem_append_left _ hp)).1, e1, c1⟩ st p.isList (by simp; omega) (f5 q (List.mem_append_left _ hp)) fun h' eb => ⟨rfl, I.turned (t' := s.toks) (fun b o hb e => eb b o hb e) f0 f1 f3 f4 f5⟩
section
variable {X : Cx} {tg : Expr}
theorem pi_listH {l : Expr} {tl : TE} (hl : PE X l tl) : L2H.PIH X tg l (iList X.K tl) := by
  refine ⟨fun pins s σ H R I h => ?_⟩
  refine thn (hl.run pins s σ H _ I h) fun v s1 ⟨x, H1, I1, r1, a, e, ⟨xs, hq⟩, q⟩ => ?_
  subst e
  cases r1
  obtain ⟨its, rv, p, hz⟩ := I1.list hq
  refine wpAny_pyIter_list p.isList ⟨s1.heap.objs.size, [s1.heap.objs.size], _, _, H1, rfl, I1.kept (t' := s1.toks) fun b o e => Heap.get?_push_of_some _ e, turn_listH a _, ⟨_, Heap.get?_push_size _ rfl, rfl, rfl⟩, fun b hb => ?_, q⟩
  obtain rfl : b = s1.heap.objs.size := by simpa using hb
  exact I1.fpOk (Nat.le_refl _) (I1.hok.fresh (Nat.le_refl _))
theorem pi_listHK {K : PySem.W.Frag} (hK : X.K = K) {l : Expr} {tl : TE} (hl : PE X l tl) : L2H.PIH X tg l (iList K tl) := hK ▸ pi_listH hl
end
/-- a comprehension's block of such a def: the error stays pinned -/
abbrev blkH (X : Cx) (s : Shared) (H : Hp) (scope : Scope) (cenv : Env) (fp : List Addr) : Cx := { X.blk s H scope cenv fp with pn := X.pn }
section
variable {X : Cx} {pins : List (Addr × Obj)}
theorem blkH_of {σ σ' : L2.St} {H : Hp} {s s4 : Shared} {scope : Scope} {cenv : Env} {fp : List Addr} (I : Inv X pins σ H s) (J : Inv (X.blk s H scope cenv fp) [] σ' H s4) (k : ∀ b o, s.heap.get? b = some o → s4.heap.get? b = some o) (n : s.heap.objs.size ≤ cenv.locals) : Inv (blkH X s H scope cenv fp) [] σ' H s4 := by
  refine ⟨⟨J.ok.mod, J.ok.kind, J.ok.glob, J.ok.blt, J.ok.above, J.ok.inj, J.ok.has, J.ok.cab, J.ok.hd, J.ok.frames, J.ok.stk, J.ok.exf, J.ok.bs, J.ok.bsz, J.ok.noex, J.ok.exfs, J.ok.funs, J.ok.frf⟩, J.os, J.bare, J.base, J.loc, J.cell, J.free, J.freeC, fun p hp => ?_, J.hok, J.len⟩
  have hp' : p ∈ X.pn := by simpa using hp
  obtain ⟨h1, h2, h3, h4, h5⟩ := I.pin p (List.mem_append_left _ hp')
  refine ⟨k _ _ h1, h2, Nat.ne_of_lt (Nat.lt_of_lt_of_le (Heap.lt_size h1) n), ?_, h5⟩
  show p.1 ∉ frs X.stack
  rcases I.ok.stk with e | ⟨e, ef⟩
  · rw [e]; exact h4
  · rw [e]
    intro z
    have z' : p.1 = X.env.locals ∨ p.1 ∈ frs X.outer := by simpa [frs, ef, eq_comm] using z
    exact z'.elim h3 h4
theorem lc_coreH {s : Shared} {σ : L2.St} {H : Hp} {Q : VK} {elt tg iter : Expr} {ifs : List Expr} {scope : Scope} {own : List (Str × Nat)} {pos pos' : Pos} {wi : TI} {g : TG} {tt : TT} {te : TE} {use : Option (Value → Sem Unit)} {Qf : Value → Shared → Prop}
    (hc : L2H.HotC X) (hN : X.N.Nodup) (I : Inv X pins σ H s) (hi : L2H.PIH X tg iter wi) (ok : BlkOk X.N X.env.scope scope own)
    (hg : ∀ (s : Shared) (H : Hp) (C : Addr) (cl : List (Str × Addr)) (fp : List Addr), PG (blkH X s H scope (compEnvC scope cl C X.env) fp) tg g) (ht : ∀ (s : Shared) (H : Hp) (C : Addr) (cl : List (Str × Addr)) (fp : List Addr), PTs (blkH X s H scope (compEnvC scope cl C X.env) fp) ifs tt)
    (he : ∀ (s : Shared) (H : Hp) (C : Addr) (cl : List (Str × Addr)) (fp : List Addr), PE (blkH X s H scope (compEnvC scope cl C X.env) fp) elt te) (hs : ∀ x, foldedSetIterable iter X.env x = pure x)
    (h : tLc wi g tt te (own.map (·.2)) σ H Q)
    (hRR : ∀ D C s' m H', Inv X pins σ H' s' → Q (.ref D) H' → s'.heap.Ns C m → FpOk X pins H' C → compPost (model X.prog X.w) X.A X.xe use Qf (.ref D) C (.ok .next) s') :
    wpAny (model X.prog X.w) X.A (comprehension (.ListComp elt [⟨tg, iter, ifs, 0⟩] scope pos) scope X.env pos' (newList []) false (eval iter X.env) use) Qf X.xe s := by
  have hfree : ∀ y ∈ scope.names, y.2 = .free → ∃ c, X.env.cells.lookup y.1 = some c := fun y hy e => (ok.free y hy e).elim (fun k => I.ok.has _ (.inl k)) (fun k => I.ok.has _ (.inr k))
  refine wpAny_comprehension_free (use := use) rfl hs (closure_ok hfree) ok.kind (fun y hy e => by rw [ok.uniq y hy, e]) (thn (hi.run pins s σ H _ I h) fun xv s1 hx => thn hx fun itv s2 h2 => ?_)
  obtain ⟨it, fp, tn, J, H2, e, I2, T, st2, f2, q⟩ := h2
  subst e
  refine wpAny_newObj_type (newEnv_comp ?_) (by show 0 ≤ sizeLine; decide)
  generalize hD : s2.heap.objs.size = D
  obtain ⟨W, ⟨m0, w0⟩, turn⟩ := q D (I2.hok.fresh (Nat.le_of_eq hD))
  generalize hs3 : ({ s2 with heap := s2.heap.push { cls := .type "list", data := .seq ([] : List Value).toArray } } : Shared) = s3
  have h3 : s3.heap = s2.heap.push { cls := .type "list", data := .seq ([] : List Value).toArray } := by rw [← hs3]
  have I3 : Inv X pins σ (upd H2 D (.lst [])) s3 := by
    rw [← hs3]
    refine I2.laid (t' := s2.toks) (fun b o e => Heap.get?_push_of_some _ e) (Nat.le_of_eq hD) ⟨Nat.zero_le _, [], 0, .nil, ?_⟩
    rw [← hD]
    exact Heap.get?_push_size _ rfl
  have f3 : ∀ b ∈ fp, FpOk X pins (upd H2 D (.lst [])) b ∧ b < s3.heap.objs.size := fun b hb => by
    obtain ⟨o, e, _⟩ := T.obj _ _ st2 b hb
    have hlt := Heap.lt_size e
    refine ⟨⟨?_, (f2 b hb).2⟩, by rw [h3, Heap.size_push]; exact Nat.lt_succ_of_lt hlt⟩
    rw [upd_ne (by rw [← hD]; exact Nat.ne_of_lt hlt)]
    exact (f2 b hb).1
  have st3 : tn 0 s3.heap := T.keep _ _ _ st2 fun b _ o e => by rw [h3]; exact Heap.get?_push_of_some _ e
  have I4 := block_start I3 ok hN f3
  have pg := hg s3 (upd H2 D (.lst [])) s3.heap.objs.size (cellsFrom (s3.heap.objs.size + 1) scope.names (cloFrom X.env.cells scope.names [])) fp
  have pt := ht s3 (upd H2 D (.lst [])) s3.heap.objs.size (cellsFrom (s3.heap.objs.size + 1) scope.names (cloFrom X.env.cells scope.names [])) fp
  have pe := he s3 (upd H2 D (.lst [])) s3.heap.objs.size (cellsFrom (s3.heap.objs.size + 1) scope.names (cloFrom X.env.cells scope.names [])) fp
  show codeAny _ _ (.compStart (.ListComp elt [⟨tg, iter, ifs, 0⟩] scope pos) 0 (.ref it) (.ref D) (compEnvC scope (cellsFrom (s3.heap.objs.size + 1) scope.names (cloFrom X.env.cells scope.names [])) s3.heap.objs.size X.env)) (compPost (model X.prog X.w) X.A X.xe use Qf (.ref D) s3.heap.objs.size) { s3 with heap := pushCells (s3.heap.push { cls := .type "dict", data := .dict #[] }) scope.names }
  have nfp : ∀ b ∈ fp, (upd H2 D (.lst [])) b = none := fun b hb => (f3 b hb).1.1
  generalize hce : compEnvC scope (cellsFrom (s3.heap.objs.size + 1) scope.names (cloFrom X.env.cells scope.names [])) s3.heap.objs.size X.env = ce at I4 pg pt pe ⊢
  have cL : ce.locals = s3.heap.objs.size := by subst hce; rfl
  generalize hH3 : upd H2 D (.lst []) = H3 at I3 I4 pg pt pe w0 nfp f3
  have kp4 : ∀ b o, s3.heap.get? b = some o → ({ s3 with heap := pushCells (s3.heap.push { cls := .type "dict", data := .dict #[] }) scope.names } : Shared).heap.get? b = some o := fun b o e => pushCells_keeps _ _ _ _ (Heap.get?_push_of_some _ e)
  generalize hs4 : ({ s3 with heap := pushCells (s3.heap.push { cls := .type "dict", data := .dict #[] }) scope.names } : Shared) = s4 at I4 kp4 ⊢
  have st4 : tn 0 s4.heap := T.keep _ _ _ st3 fun b _ o e => kp4 b o e
  have I4 := blkH_of I3 I4 kp4 (Nat.le_of_eq cL.symm)
  have hcb : L2H.HotC (blkH X s3 H3 scope ce fp) := hc
  have stat : ∀ {σ' : L2.St} {H' : Hp} {s' : Shared}, Inv (blkH X s3 H3 scope ce fp) [] σ' H' s' → (∀ b ∈ fp, H' b = none) → ∀ b ∈ fp, FpOk (blkH X s3 H3 scope ce fp) [] H' b := fun {σ' H' s'} I' hn b hb =>
    ⟨hn b hb, (I'.ok.exf b hb).1, I'.ok.exfs b hb, .inl hb, fun x c e => (I'.ok.exf b hb).2 x c e, fun p hp => (f3 b hb).1.2.2.2.2.2 p (List.mem_append_left _ (by simpa using hp))⟩
  have loop : codeAny (model X.prog X.w) X.A (.compLoop (.ListComp elt [⟨tg, iter, ifs, 0⟩] scope pos) 0 (.ref it) (.ref D) ce) (compPost (model X.prog X.w) X.A X.xe use Qf (.ref D) s3.heap.objs.size) s4 := by
    refine compLoop_any (fun n s' => ∃ i H', Inv (blkH X s3 H3 scope ce fp) [] (wipe σ (own.map (·.2))) H' s' ∧ tn i s'.heap ∧ (∀ b ∈ fp, H' b = none) ∧ W i n H') ?_ m0 ⟨0, H3, I4, st4, nfp, w0⟩
    rintro n s5 ⟨i, H5, I5, st5, n5, w5⟩
    rcases turn i n H5 w5 with ⟨stop, qq⟩ | ⟨go, Nx, hNx, step⟩
    · refine thnF (T.done (blkH X s3 H3 scope ce fp) rfl rfl rfl hcb i [] s5 _ H5 (fun _ _ => False) I5 (stat I5 n5) st5 stop) fun r s6 ⟨hr, I6⟩ => ?_
      subst hr
      have I7 : Inv X pins σ H5 s6 := I3.call' (ch := fp) I6.os I6.base I6.hok I6.bare fun b hb => ⟨(f3 b hb).1.2.2.2.1, (f3 b hb).1.2.1, (f3 b hb).1.2.2.2.2.1, (f3 b hb).1.2.2.2.2.2⟩
      have nC : H5 s3.heap.objs.size = none := by
        have z : H5 ce.locals = none := I6.free
        rw [cL] at z
        exact z
      obtain ⟨m, hn, _⟩ := I6.loc
      have hn : s6.heap.Ns ce.locals m := hn
      rw [cL] at hn
      exact hRR D s3.heap.objs.size s6 m H5 I7 qq hn (I3.fpOk (Nat.le_refl _) nC)
    · refine thnF (T.item (blkH X s3 H3 scope ce fp) rfl rfl rfl hcb i [] s5 _ H5 (fun _ _ => False) I5 (stat I5 n5) st5 go) fun r s6 ⟨u, hr, h6⟩ => ?_
      subst hr
      refine thnF h6 fun _ s7 ⟨x, H7, I7, r7, y7, st7, n7⟩ => ?_
      have I7' := I7.pinned (stat I7 n7) (T.obj _ _ st7)
      refine thnF (pg.run _ s7 _ H7 x u _ I7' r7 (step x H7 y7)) fun _ s8 ⟨σ8, H8, I8, hw8, q8⟩ => ?_
      refine thnF (pt.run _ s8 σ8 H8 _ I8 q8) fun b s9 ⟨H9, I9, q9⟩ => ?_
      have fin : ∀ {s' : Shared} {H' : Hp}, Inv (blkH X s3 H3 scope ce fp) ([] ++ pinsAt fp s7.heap) σ8 H' s' → Nx H' → ∃ m, m < n ∧ ∃ i H', Inv (blkH X s3 H3 scope ce fp) [] (wipe σ (own.map (·.2))) H' s' ∧ tn i s'.heap ∧ (∀ b ∈ fp, H' b = none) ∧ W i m H' := fun {s' H'} I' nx => by
        obtain ⟨m', hm, w'⟩ := hNx H' nx
        have pin' : ∀ b ∈ fp, ∀ o, s7.heap.get? b = some o → s'.heap.get? b = some o ∧ H' b = none := fun b hb o e =>
          let z := I'.pin (b, o) (List.mem_append_right _ (List.mem_append_right _ (mem_pinsAt hb e)))
          ⟨z.1, z.2.1⟩
        have hl : (wipe σ (own.map (·.2))).length = σ8.length := by rw [← hw8, wipe_length]
        refine ⟨m', hm, i + 1, H', (I'.unpinned (pins := [])).weak hl (fun j v e => ?_), T.keep _ _ _ st7 fun b hb o e => (pin' b hb o e).1, fun b hb => ?_, w'⟩
        · rw [← hw8] at e
          exact (wipe_some e).1
        · obtain ⟨o, e, _⟩ := T.obj _ _ st7 b hb
          exact (pin' b hb o e).2
      cases b with
      | false =>
        simp only [Bool.false_eq_true, if_false] at q9 ⊢
        exact fin I9 q9
      | true =>
        simp only [if_true] at q9 ⊢
        refine thnF (pe.run _ s9 σ8 H9 _ I9 q9) fun z s10 ⟨yv, H10, I10, r10, acc, hD10, hz10, nx⟩ => ?_
        exact app_ok (X := blkH X s3 H3 scope ce fp) I10 hD10 hz10 r10 fun s11 I11 => fin I11 nx
  exact codeAny_compStart_list loop (T.self X.A 0 _ _ _ st4 loop)
theorem pe_lcH {elt tg iter : Expr} {ifs : List Expr} {scope : Scope} {own : List (Str × Nat)} {pos : Pos} {wi : TI} {g : TG} {tt : TT} {te : TE} (hc : L2H.HotC X) (hN : X.N.Nodup) (hi : L2H.PIH X tg iter wi) (ok : BlkOk X.N X.env.scope scope own)
    (hg : ∀ (s : Shared) (H : Hp) (C : Addr) (cl : List (Str × Addr)) (fp : List Addr), PG (blkH X s H scope (compEnvC scope cl C X.env) fp) tg g) (ht : ∀ (s : Shared) (H : Hp) (C : Addr) (cl : List (Str × Addr)) (fp : List Addr), PTs (blkH X s H scope (compEnvC scope cl C X.env) fp) ifs tt)
    (he : ∀ (s : Shared) (H : Hp) (C : Addr) (cl : List (Str × Addr)) (fp : List Addr), PE (blkH X s H scope (compEnvC scope cl C X.env) fp) elt te) (hs : ∀ x, foldedSetIterable iter X.env x = pure x := by intro _; rfl) :
    PE X (.ListComp elt [⟨tg, iter, ifs, 0⟩] scope pos) (tLc wi g tt te (own.map (·.2))) := by
  refine ⟨fun pins s σ H Q I h => ?_⟩
  rw [eval_ListComp]
  refine lc_coreH hc hN I hi ok hg ht he hs h fun D C s' m H' I' q hn f => ⟨m, hn, fun h'' sb => ?_⟩
  obtain ⟨f0, f1, f2, f3, f4, f5⟩ := f
  exact ⟨.ref D, H', I'.turned (t' := s'.toks) (fun b o hb e => (sb.2 b hb).trans e) f0 f1 f3 f4 f5, rfl, q⟩
end
end Vb
namespace Pu
open PySem PySem.Spec PyProof.Rows L2
/-- a promise's answers and errors are told in another way: pmono shows it for a promise written with ∃, ∧, ∨, → and ∀ -/
theorem pm_ex {α : Type} {p q : α → Prop} (h : ∀ a, p a → q a) : (∃ a, p a) → ∃ a, q a := fun ⟨a, b⟩ => ⟨a, h a b⟩
theorem pm_all {α : Sort _} {p q : α → Prop} (h : ∀ a, p a → q a) : (∀ a, p a) → ∀ a, q a := fun f a => h a (f a)
theorem pm_and {a b c d : Prop} (h : a → c) (g : b → d) : a ∧ b → c ∧ d := fun x => ⟨h x.1, g x.2⟩
theorem pm_or {a b c d : Prop} (h : a → c) (g : b → d) : a ∨ b → c ∨ d := fun x => x.imp h g
/-! ### a list that is spoilt: turned about, and None put behind -/
/-- none of these is a list -/
def NoL (ds : List PyData) : Prop := ∀ d ∈ ds, Vb.isL d = false
theorem noL_map {α : Type} {f : α → PyData} {xs : List α} (h : ∀ x, Vb.isL (f x) = false) : NoL (xs.map f) := fun d m => by
  obtain ⟨x, _, rfl⟩ := List.mem_map.mp m
  exact h x
theorem dpa_of {K : PySem.W.Frag} {H : Hp} : ∀ {ds : List PyData} {vs : List V} {i : Nat} {v : V}, DpAll K H vs ds → vs[i]? = some v → ∃ d, ds[i]? = some d ∧ Dp K H v d
  | [], _, _, _, h, e => by cases h; cases e
  | d :: ds, _, i, v, h, e => by
    cases h with
    | cons h1 h2 =>
      cases i with
      | zero => cases e; exact ⟨d, rfl, h1⟩
      | succ i => exact dpa_of (i := i) h2 (by simpa using e)
/-- a list of things that are no lists, or a tuple of any data -/
def spSpoil (K : PySem.W.Frag) : Sp := fun vs H Q _ => ∃ a, vs = [.ref a] ∧ ((∃ (xs : List V) (ds : List PyData), H a = some (.lst xs) ∧ xs.length ≤ 1000000 ∧ DpAll K H xs ds ∧ NoL ds ∧ Q .non (upd (upd H a (.lst xs.reverse)) a (.lst (xs.reverse ++ [.non])))) ∨ (∃ ds, Dp K H (.ref a) (.tuple ds) ∧ Q .non H) ∨ (∃ (xs : List V) (C : Addr), H a = some (.lst xs) ∧ xs.length ≤ 1000000 ∧ (∀ x ∈ xs, ∃ b dx fs, x = .ref b ∧ H b = some (.ins C dx fs)) ∧ Vb.Ki K C ∧ Cls K C ∧ PySem.W.subIn K (.ref C) (.type "list") = some false ∧ Q .non (upd (upd H a (.lst xs.reverse)) a (.lst (xs.reverse ++ [.non])))))
section
variable {so : Option Addr} {c : Ct so} {K : PySem.W.Frag} {env : Ev} {k : Rs → Ev → Prop} {ts : TS} {nx : Ev → Prop} {rt : Rs → Prop} {bk ct : Ev → Prop}
theorem upd_id {H : Hp} {a : Addr} {o : HO} (h : H a = some o) : upd H a o = H := by
  funext b
  by_cases e : b = a
  · rw [e, upd_same, h]
  · rw [upd_ne e]
/-- an own object is told in another way -/
theorem W.wkO {i : Nat} {C C' : Cn} (e : env[i]? = some (.o C)) (q : ∀ S a o, C.r S a o → C'.r S a o) (h : W c ts (env.set i (.o C')) ⟨nx, rt, bk, ct⟩) : W c ts env ⟨nx, rt, bk, ct⟩ := fun S σ H d R z => by
  obtain ⟨a, ob, ow, h1, h2, h3⟩ := R.own e
  have := R.mut e h1 (C' := C') (ob' := ob) (q _ _ _ h3)
  rw [upd_id h2] at this
  exact h S σ H d this z
theorem e_spoil {i : Nat} {As : List Asn} {ds : List PyData} {Ex : L2.St → XK} (e : env[i]? = some (.o (Lc As))) [hd : ToDs K As ds] (n : NoL ds) (l : As.length ≤ 1000000) (q : k (.v No) (env.set i (.o (Lc (As.reverse ++ [No]))))) : E c (tCallS (spSpoil K) Ex (tCons (tVar i) tNil)) env k := fun S σ H Q R z => by
  obtain ⟨a, ob, _, h1, h2, xs, rfl, g⟩ := R.own e
  refine Vb.r_callS (Vb.r_cons (Vb.r_var h1 (Vb.r_nil ?_)))
  refine ⟨a, rfl, .inl ⟨xs, ds, h2, by rw [← g.len]; exact l, Vb.dpa_same R.sh _ _ (hd.d S xs g), n, ?_⟩⟩
  have u : ∀ o1 o2, upd (upd H a o1) a o2 = upd H a o2 := fun o1 o2 => by
    funext b
    by_cases e : b = a
    · rw [e, upd_same, upd_same]
    · rw [upd_ne e, upd_ne e, upd_ne e]
  rw [u]
  exact z S .non _ (.v No) _ q (Same.refl S) (R.mut e h1 (C' := Lc (As.reverse ++ [No])) ⟨_, rfl, g.rev.app (All.one rfl)⟩) rfl
theorem e_spoilT {i : Nat} {A : Asn} {ds : List PyData} {Ex : L2.St → XK} (e : env[i]? = some (.v A)) [hd : ToD K A (.tuple ds)] (q : k (.v No) env) : E c (tCallS (spSpoil K) Ex (tCons (tVar i) tNil)) env k := fun S σ H Q R z => by
  obtain ⟨x, h1, h2⟩ := R.at_ e
  have d := Vb.dp_same R.sh _ _ (hd.d S x h2)
  obtain ⟨a, rfl⟩ : ∃ a, x = .ref a := by cases d; exact ⟨_, rfl⟩
  refine Vb.r_callS (Vb.r_cons (Vb.r_var h1 (Vb.r_nil ?_)))
  exact ⟨a, rfl, .inr (.inl ⟨ds, d, z S .non _ (.v No) _ q (Same.refl S) R rfl⟩)⟩
end
/-! ### lists and tuples compared -/
/-- nested less than n deep, no dicts, texts that can stand -/
def SOk : Nat → PyData → Prop
  | 0, _ => False
  | n + 1, .list ds => ∀ d ∈ ds, SOk n d
  | n + 1, .tuple ds => ∀ d ∈ ds, SOk n d
  | _ + 1, .dict _ => False
  | _ + 1, .str s => PyData.strOk s = true
  | _ + 1, _ => True
theorem sok_all {n : Nat} (ih : ∀ d, SOk n d → d.canLay0 = true ∧ d.depth ≤ n) : ∀ {ds : List PyData}, (∀ d ∈ ds, SOk n d) → PyData.canLayAll0 ds = true ∧ PyData.depthAll ds ≤ n
  | [], _ => ⟨rfl, by rw [PyData.depthAll]; omega⟩
  | d :: ds, h => by
    have a := ih d (h d (List.mem_cons_self ..))
    have b := sok_all ih (ds := ds) fun e m => h e (List.mem_cons_of_mem _ m)
    refine ⟨by rw [PyData.canLayAll0, a.1, b.1]; rfl, ?_⟩
    rw [PyData.depthAll]
    have := a.2
    have := b.2
    omega
theorem sok_lay : ∀ (n : Nat) (d : PyData), SOk n d → d.canLay0 = true ∧ d.depth ≤ n
  | 0, _, h => h.elim
  | n + 1, .list ds, h => by
    have := sok_all (sok_lay n) (ds := ds) h
    exact ⟨by rw [PyData.canLay0]; exact this.1, by rw [PyData.depth]; omega⟩
  | n + 1, .tuple ds, h => by
    have := sok_all (sok_lay n) (ds := ds) h
    exact ⟨by rw [PyData.canLay0]; exact this.1, by rw [PyData.depth]; omega⟩
  | n + 1, .dict _, h => h.elim
  | n + 1, .str s, h => ⟨by rw [PyData.canLay0]; exact h, by rw [PyData.depth]; omega⟩
  | n + 1, .none, _ => ⟨by rw [PyData.canLay0], by rw [PyData.depth]; omega⟩
  | n + 1, .bool _, _ => ⟨by rw [PyData.canLay0], by rw [PyData.depth]; omega⟩
  | n + 1, .int _, _ => ⟨by rw [PyData.canLay0], by rw [PyData.depth]; omega⟩
class SkD (n : Nat) (d : PyData) : Prop where
  s : SOk n d
class SkDs (n : Nat) (ds : List PyData) : Prop where
  s : ∀ d ∈ ds, SOk n d
instance {n : Nat} {i : Int} : SkD (n + 1) (.int i) := ⟨trivial⟩
instance {n : Nat} {b : Bool} : SkD (n + 1) (.bool b) := ⟨trivial⟩
instance {n : Nat} : SkD (n + 1) .none := ⟨trivial⟩
instance {n : Nat} {ds : List PyData} [h : SkDs n ds] : SkD (n + 1) (.list ds) := ⟨h.s⟩
instance {n : Nat} {ds : List PyData} [h : SkDs n ds] : SkD (n + 1) (.tuple ds) := ⟨h.s⟩
instance {n : Nat} : SkDs n [] := ⟨fun d m => by cases m⟩
instance {n : Nat} {d : PyData} {ds : List PyData} [a : SkD n d] [b : SkDs n ds] : SkDs n (d :: ds) := ⟨fun e m => by
  rcases List.mem_cons.mp m with rfl | m
  · exact a.s
  · exact b.s e m⟩
instance {n : Nat} {α : Type} {f : α → PyData} {xs : List α} [a : ∀ x, SkD n (f x)] : SkDs n (xs.map f) := ⟨fun e m => by
  obtain ⟨x, _, rfl⟩ := List.mem_map.mp m
  exact (a x).s⟩
theorem SkD.shaped {n : Nat} {d : PyData} (h : SkD n d) (l : n ≤ 64) : SeqAt.shaped d = true := by
  have := sok_lay n d h.s
  unfold SeqAt.shaped
  rw [this.1, decide_eq_true (by have := this.2; omega)]
  rfl
/-- what r is, as data -/
inductive IsD (K : PySem.W.Frag) (env : Ev) : Rs → PyData → Prop
  | v {A : Asn} {d : PyData} [h : ToD K A d] : IsD K env (.v A) d
  | cp {i : Nat} {As : List Asn} {ds : List PyData} [h : ToDs K As ds] : env[i]? = some (.o (Lc As)) → IsD K env (.cp i) (.list ds)
section
variable {so : Option Addr} {c : Ct so} {K K' : PySem.W.Frag} {env : Ev} {k : Rs → Ev → Prop}
theorem IsD.go {r : Rs} {d : PyData} {S : Hp} {σ : L2.St} {H : Hp} {x : V} (h : IsD K env r d) (R : Rep c S env σ H) (q : ROk c S H env σ r x) : Dp K H x d := by
  cases h with
  | v => rename_i h; exact Vb.dp_same R.sh _ _ (h.d S x q)
  | cp e =>
    rename_i h
    obtain ⟨a, xs, rfl, h1, g⟩ := (IsL.cp e).go R q
    exact .lst (Vb.sq_of h1) (Vb.dpa_same R.sh _ _ (h.d S xs g))
theorem r_eqD {r s : Rs} {d e : PyData} (e0 : K' = K) (h1 : IsD K env r d) (h2 : IsD K env s e) [s1 : SkD 9 d] [s2 : SkD 9 e] (q : k (.v (Bo (PyData.eqv d e))) env) : R2 c (rEqD K') r s env k := fun S σ H x y Q R _ _ qx qy z => by
  subst e0
  exact ⟨d, e, h1.go R qx, h2.go R qy, s1.shaped (by decide), s2.shaped (by decide), z S _ H _ env q (Same.refl S) R rfl⟩
theorem r_neD {r s : Rs} {d e : PyData} (e0 : K' = K) (h1 : IsD K env r d) (h2 : IsD K env s e) [s1 : SkD 9 d] [s2 : SkD 9 e] (q : k (.v (Bo (!PyData.eqv d e))) env) : R2 c (rNeD K') r s env k := fun S σ H x y Q R _ _ qx qy z => by
  subst e0
  exact ⟨d, e, h1.go R qx, h2.go R qy, s1.shaped (by decide), s2.shaped (by decide), z S _ H _ env q (Same.refl S) R rfl⟩
theorem eqv_same {d : PyData} [s : SkD 9 d] : PyData.eqv d d = true := SeqAt.eqv_refl d (sok_lay 9 d s.s).1
/-- the same data -/
theorem r_eqDs {r s : Rs} {d : PyData} (e0 : K' = K) (h1 : IsD K env r d) (h2 : IsD K env s d) (s1 : SkD 9 d) (q : k (.v (Bo true)) env) : R2 c (rEqD K') r s env k := r_eqD e0 h1 h2 (by rw [eqv_same]; exact q)
theorem r_neDs {r s : Rs} {d : PyData} (e0 : K' = K) (h1 : IsD K env r d) (h2 : IsD K env s d) (s1 : SkD 9 d) (q : k (.v (Bo false)) env) : R2 c (rNeD K') r s env k := r_neD e0 h1 h2 (by rw [eqv_same]; exact q)
theorem op_eqDK {X : Cx} {K : PySem.W.Frag} (e : X.K = K) (hu : X.A.units + 64 < cLine) : OpR X (compareOp .Eq) (rEqD K) := by
  subst e
  exact op_eqD hu
theorem op_neDK {X : Cx} {K : PySem.W.Frag} (e : X.K = K) (hu : X.A.units + 64 < cLine) : OpR X (compareOp .NotEq) (rNeD K) := by
  subst e
  exact op_neD hu
end
end Pu
namespace Vb
open PySem PySem.Spec PyProof.Rows L2
section
variable {X : Cx}
def rSumS (K : PySem.W.Frag) : List V → Hp → VK → Prop := fun vs H Q => ∃ (a : Addr) (ns : List Int), vs = [V.ref a] ∧ Vb.SqA K H a (ns.map V.int) ∧ Q (.int ns.sum) H
/-- sum of a list or a tuple of ints -/
theorem cr_sumS (hc : X.calm = true) : CallR X (.builtin "sum") (rSumS X.K) := by
  intro pins s σ H vs us Q I r h
  obtain ⟨a, ns, rfl, hs | hs, q⟩ := h
  · exact cr_sum (X := X) hc pins s σ H _ us Q I r ⟨a, ns, rfl, hs, q⟩
  · obtain ⟨its, rv, hl, _⟩ := I.tuple hs
    rw [Vals.ref1 r]
    have hi := rv.ints
    obtain ⟨xs, e⟩ := hi.allInts.items
    have hn : numsOf (intItems xs).toList = ns := by rw [← e]; exact hi.numsOf
    rw [nums_intItems] at hn
    obtain ⟨o, ho, hc1, n, hd⟩ := hl
    rw [e] at hd
    refine PySem.W.ktm_sumG (I.ok.hd hc) ⟨o, ho, hc1, n, hd⟩ fun h' tk t' hk => ?_
    rw [preSum_eq, List.take_of_length_le (by simp), hn]
    exact ⟨.int _, H, I.kept hk, ⟨_, rfl⟩, q⟩
end
end Vb
namespace Pu
open PySem PySem.Spec PyProof.Rows L2
section
variable {so : Option Addr} {c : Ct so} {K : PySem.W.Frag} {env : Ev} {k : Rs → Ev → Prop}
theorem r_sum {r : Rs} {ns : List Int} (h : IsA K env r (ns.map I)) (q : k (.v (I ns.sum)) env) : RL c (Vb.rSumS K) [r] env k := fun S σ H xs Q R qs z => by
  obtain _ | ⟨x', _ | ⟨y', xs⟩⟩ := xs
  · exact qs.elim
  · obtain ⟨a, ys, rfl, s, g⟩ := h.go R qs.1.2
    refine ⟨a, ns, rfl, ?_, z S _ H _ env q (Same.refl S) R rfl⟩
    rw [← All.ints g]
    exact sqa_of s
  · exact qs.2.elim
end
end Pu
namespace Pu
open PySem PySem.Spec PyProof.Rows L2
/-! ### data that may be asked for -/
def DOks (n : Nat) : List PyData → Prop
  | [] => True
  | d :: ds => Vb.DOk n d ∧ DOks n ds
theorem DOks.all {n : Nat} : ∀ {ds : List PyData}, DOks n ds → ∀ d ∈ ds, Vb.DOk n d
  | [], _, d, m => by cases m
  | d :: ds, h, e, m => by
    rcases List.mem_cons.mp m with rfl | m
    · exact h.1
    · exact h.2.all e m
theorem dok_lm {n : Nat} {α : Type} {f : α → PyData} {xs : List α} (l : xs.length ≤ 1000000) (h : ∀ x, Vb.DOk n (f x)) : Vb.DOk (n + 1) (.list (xs.map f)) := ⟨by rw [List.length_map]; exact l, fun d m => by
  obtain ⟨x, _, rfl⟩ := List.mem_map.mp m
  exact h x⟩
theorem dok_lmm {n : Nat} {α : Type} {f : α → PyData} {xs : List α} (l : xs.length ≤ 1000000) (h : ∀ x ∈ xs, Vb.DOk n (f x)) : Vb.DOk (n + 1) (.list (xs.map f)) := ⟨by rw [List.length_map]; exact l, fun d m => by
  obtain ⟨x, mx, rfl⟩ := List.mem_map.mp m
  exact h x mx⟩
theorem dok_tm {n : Nat} {α : Type} {f : α → PyData} {xs : List α} (l : xs.length ≤ 1000000) (h : ∀ x, Vb.DOk n (f x)) : Vb.DOk (n + 1) (.tuple (xs.map f)) := ⟨by rw [List.length_map]; exact l, fun d m => by
  obtain ⟨x, _, rfl⟩ := List.mem_map.mp m
  exact h x⟩
theorem dok_ll {n : Nat} {ds : List PyData} (l : Nat.ble ds.length 1000000 = true) (h : DOks n ds) : Vb.DOk (n + 1) (.list ds) := ⟨Nat.le_of_ble_eq_true l, h.all⟩
theorem dok_tl {n : Nat} {ds : List PyData} (l : Nat.ble ds.length 1000000 = true) (h : DOks n ds) : Vb.DOk (n + 1) (.tuple ds) := ⟨Nat.le_of_ble_eq_true l, h.all⟩
theorem q_nlv {A : Asn} [NL A] {Q : Prop} (q : Q) : NLr (.v A) ∧ Q := ⟨.v, q⟩
theorem q_nlo {C : Cn} [NLC C] {Q : Prop} (q : Q) : NLr (.o C) ∧ Q := ⟨.o, q⟩
theorem rowT_len {α β : Type} {f : α → β} {xs : List α} : (xs.map f).length = xs.length := List.length_map ..
end Pu
namespace Pu
open PySem PySem.Spec PyProof.Rows L2
section
variable {so : Option Addr} {c : Ct so} {K : PySem.W.Frag} {env : Ev} {k : Rs → Ev → Prop}
theorem e_spoilX {i : Nat} {As : List Asn} {ds : List PyData} {Ex : L2.St → XK} (e : env[i]? = some (.o (Lc As))) (hd : ToDs K As ds) (n : NoL ds) (l : As.length ≤ 1000000) (q : k (.v No) (env.set i (.o (Lc (As.reverse ++ [No]))))) : E c (tCallS (spSpoil K) Ex (tCons (tVar i) tNil)) env k := e_spoil e n l q
theorem e_spoilTX {i : Nat} {A : Asn} {ds : List PyData} {Ex : L2.St → XK} (e : env[i]? = some (.v A)) (hd : ToD K A (.tuple ds)) (q : k (.v No) env) : E c (tCallS (spSpoil K) Ex (tCons (tVar i) tNil)) env k := e_spoilT e q
end
end Pu
theorem Pu.ite_ndt {p : Prop} [Decidable p] {A B : Prop} (h : p) (b : B) : if (!decide p) = true then A else B := by
  rw [if_neg (by simp [h])]
  exact b
theorem Pu.ite_ndf {p : Prop} [Decidable p] {A B : Prop} (h : ¬ p) (a : A) : if (!decide p) = true then A else B := by
  rw [if_pos (by simp [h])]
  exact a
theorem Pu.r_tupleK {so : Option PySem.Addr} {c : Pu.Ct so} {K K' : PySem.W.Frag} {env : Pu.Ev} {k : Pu.Rs → Pu.Ev → Prop} {r : Pu.Rs} {As : List Pu.Asn} (e0 : K' = K) (h : Pu.IsA K env r As) (q : k (.v (Pu.Tu K As)) env) : Pu.RL c (Vb.rTup K') [r] env k := by
  subst e0
  exact Pu.r_tuple h q
theorem Pu.crK {X : L2.Cx} {K : PySem.W.Frag} {f : PySem.Value} {R : PySem.W.Frag → List L2.V → L2.Hp → L2.VK → Prop} (h : L2.CallR X f (R X.K)) (e : X.K = K) : L2.CallR X f (R K) := by
  subst e
  exact h
theorem Pu.slK {X : L2.Cx} {K : PySem.W.Frag} {R : PySem.W.Frag → L2.V → Option Int → Option Int → L2.Hp → L2.VK → Prop} (h : L2.SlR X (R X.K)) (e : X.K = K) : L2.SlR X (R K) := by
  subst e
  exact h
namespace Pu
theorem cutA_take {α : Type} {xs : List α} {n : Nat} : cutA xs none (some (n : Int)) = xs.take n := by
  unfold cutA
  rw [HT.sIx_none, HT.sIx_nat, List.drop_zero, Nat.sub_zero]
  by_cases h : n ≤ xs.length
  · rw [Nat.min_eq_left h]
  · rw [Nat.min_eq_right (by omega), List.take_length, List.take_of_length_le (by omega)]
theorem cutA_drop {α : Type} {xs : List α} {n : Nat} : cutA xs (some (n : Int)) none = xs.drop n := by
  unfold cutA
  rw [HT.sIx_nat, HT.sIx_none]
  by_cases h : n ≤ xs.length
  · rw [Nat.min_eq_left h, List.take_of_length_le (by rw [List.length_drop]; omega)]
  · rw [Nat.min_eq_right (by omega), List.drop_length, List.drop_of_length_le (by omega), List.take_nil]
end Pu
namespace Pu
open PySem PySem.Spec PyProof.Rows L2
/-! ### __init__ -/
section
variable {P : Program} {w : World} {K : PySem.W.Frag} {mg : Str → Option Value} {base : Heap}
theorem okPI {x qual : Str} {sd : Stmt} {f : Addr} {fd : FuncData} {N ps : List Str} {k : Nat} {C : Addr} {φ : PSi} (F : Fun K x qual sd f fd) (S : FnScope N ps (defScope sd)) (hl : ps.length ≤ N.length := by decide) (len : ∀ As k X, φ As k X → As.length + 1 = ps.length)
    (hbody : ∀ (cdv : Value) (A : Around) (outer : List _root_.PySem.Env) (s : Shared) (H : Hp) (E : XK) (dx y : Addr) (c : Ct none) (As : List Asn) (kk : List (Str × Asn) → Prop) (X : XP), Room k (A.deeper (envOfC qual (defScope sd) s.heap.objs.size f cdv)) → ExOk c (fun _ => X) (fun _ => E) → φ As kk X →
      ∃ t, PSs (cxOf (L2N.CX P w) P w K mg base N qual (defScope sd) f cdv A outer s H E) (defBody sd) t ∧ W c t (envOf N.length (.o (Ic C dx y []) :: As.map Sl.v)) ⟨fun e => ∃ fs, e[0]? = some (.o (Ic C dx y fs)) ∧ kk fs, fun _ => False, fun _ => False, fun _ => False⟩) : FnOk P w K mg base (L2N.CX P w) (k + 1) f fd ps (toSpI C φ) := by
  refine Vb.okN F S (fun vs H Q E h => ?_) (fun cdv A outer s H vs Q E hr h => ?_)
  · obtain ⟨x, dx, us, B, As, kk, X, rfl, _, p, _, _, a, _⟩ := h
    rw [List.length_cons, ← a.len]
    exact len _ _ _ p
  · obtain ⟨y, dx, us, B, As, kk, X, rfl, hx, p, b, bx, a, q1, q2⟩ := h
    have l : (V.ref y :: us).length ≤ N.length := by rw [List.length_cons, ← a.len, len _ _ _ p]; exact hl
    let H0 : Hp := fun b => if b = y then none else H b
    have h0 : ∀ {b}, b ≠ y → H0 b = H b := fun {b} n => if_neg n
    have h0y : H0 y = none := if_pos rfl
    have la := a.len
    have own : ∀ i q, Own (envOf N.length (.o (Ic C dx y []) :: As.map Sl.v)) (start N (.ref y :: us)) i q → i = 0 ∧ q = y := by
      rintro i q ⟨⟨C', h⟩, h2⟩
      unfold envOf at h
      by_cases z : i = 0
      · subst z
        rw [start_get l] at h2
        rw [if_pos (by simp)] at h2
        cases h2
        exact ⟨rfl, rfl⟩
      · exfalso
        by_cases z2 : i < As.length + 1
        · rw [List.getElem?_append_left (by simp; exact z2)] at h
          obtain ⟨j, rfl⟩ : ∃ j, i = j + 1 := ⟨i - 1, by omega⟩
          rw [List.getElem?_cons_succ, List.getElem?_map] at h
          cases e : As[j]? with
          | none => rw [e] at h; cases h
          | some A => rw [e] at h; cases h
        · rw [List.getElem?_append_right (by simp; omega), List.getElem?_replicate] at h
          split at h
          · cases h
          · cases h
    have R : Rep (⟨B, H0, fun _ => none⟩ : Ct none) B (envOf N.length (.o (Ic C dx y []) :: As.map Sl.v)) (start N (.ref y :: us)) H := by
      refine ⟨Frm.of_same fun b o h => ?_, Same.refl B, b, fun _ _ h => .inl h, fun _ z => (by cases z), ?_, fun _ z => (by cases z), fun i sl h => ?_, fun i j q h1 h2 => (by rw [(own _ _ h1).1, (own _ _ h2).1]), fun i q h => (by rw [(own _ _ h).2]; exact ⟨h0y, bx⟩), fun _ _ h => (by cases h)⟩
      · have h : H0 b = some o := h
        by_cases z : b = y
        · rw [z, h0y] at h; cases h
        · rw [h0 z] at h; exact h
      · unfold envOf L2.start
        simp only [List.length_append, List.length_replicate, List.length_map, List.length_cons, la]
      · rw [start_get l]
        unfold envOf at h
        by_cases z : i = 0
        · subst z
          cases h
          rw [if_pos (by simp)]
          exact ⟨_, rfl, y, _, rfl, hx, rfl, [], rfl, rfl, trivial⟩
        · by_cases z2 : i < As.length + 1
          · rw [List.getElem?_append_left (by simp; exact z2)] at h
            obtain ⟨j, rfl⟩ : ∃ j, i = j + 1 := ⟨i - 1, by omega⟩
            rw [List.getElem?_cons_succ, List.getElem?_map] at h
            cases e : As[j]? with
            | none => rw [e] at h; cases h
            | some A =>
              rw [e] at h
              cases h
              obtain ⟨v, h1, h2⟩ := a.get e
              rw [if_pos (by simp; omega), List.getElem?_cons_succ, h1]
              exact ⟨_, rfl, v, rfl, h2⟩
          · rw [List.getElem?_append_right (by simp; omega), List.getElem?_replicate] at h
            split at h
            · cases h
              rename_i z3
              simp at z3
              rw [if_neg (by simp; omega), if_pos (by omega)]
              exact ⟨none, rfl, trivial⟩
            · cases h
    have kp : ∀ {S' : Hp} {env : Ev} {σ : L2.St} {H' : Hp}, Rep (⟨B, H0, fun _ => none⟩ : Ct none) S' env σ H' → ∀ b o, b ≠ y → H b = some o → H' b = some o := fun R' b o n h => R'.frm.k b o (fun z => by cases z) (show H0 b = some o by rw [h0 n]; exact h)
    obtain ⟨t, h1, h2⟩ := hbody cdv A outer s H E dx y ⟨B, H0, fun _ => none⟩ As kk X hr (fun S' env σ H' D fs d g R' w => q2 D fs d S' H' g (kp R') R'.bs R'.sh (fun b o h => (R'.nw b o h).imp id fun g => g.elim (fun g => by
      by_cases z : b = y
      · exact .inr (.inl z)
      · have g : H0 b = none := g
        rw [h0 z] at g
        exact .inl g) fun g => .inr (.inr g)) w) p
    refine ⟨t, h1, h2 _ _ _ _ R ⟨fun S' env σ H' g _ R' => ?_, fun _ _ _ _ _ _ z => z.elim, fun _ _ _ _ z => z.elim, fun _ _ _ _ z => z.elim⟩⟩
    obtain ⟨fs, he, hk⟩ := g
    obtain ⟨a', ob, ow, g1, g2, rfl, gs, rfl, n, g3⟩ := R'.own he
    have sx := (R'.fr _ _ ow).2
    exact q1 S' fs gs H' hk (kp R') R'.bs R'.sh (fun b o h => (R'.nw b o h).imp id fun g => g.imp (fun g => by
      have g : H0 b = none := g
      by_cases z : b = a'
      · rw [z, sx] at h; cases h
      · rw [h0 z] at g; exact g) id) sx g2 n g3
end
end Pu
namespace Pu
open PySem PySem.Spec PyProof.Rows L2
/-! ### slices of tuples; of lists or tuples -/
section
variable {so : Option Addr} {c : Ct so} {K K' : PySem.W.Frag} {env : Ev} {k : Rs → Ev → Prop}
theorem cutA_all {α : Type} {xs : List α} {lo hi : Option Int} (h : HT.sIx xs.length 0 lo = 0 ∧ HT.sIx xs.length xs.length hi = xs.length) : cutA xs lo hi = xs := by
  unfold cutA
  rw [h.1, h.2, List.drop_zero, Nat.sub_zero, List.take_length]
theorem r_slTk {As : List Asn} {lo hi : Option Int} (e0 : K' = K) (q : k (.v (Tu K (cutA As lo hi))) env) : RS c (rSlA K') (.v (Tu K As)) lo hi env k := fun S σ H x Q R d qx z => by
  subst e0
  obtain ⟨a, ys, rfl, s, g⟩ := qx
  refine ⟨a, ys, rfl, Vb.sqd R.sh s, fun e => ?_, fun _ p np => ?_⟩
  · exact z S _ H (.v (Tu _ (cutA As lo hi))) env q (Same.refl S) R ⟨a, ys, rfl, s, by rw [cutA_all (by rw [g.len]; exact e)]; exact g⟩
  · have es := Vb.same_new (o := .tup (cutV ys lo hi)) (R.s_none np)
    exact z _ _ _ (.v (Tu _ (cutA As lo hi))) env q es (R.new np) ⟨p, _, rfl, upd_same, (g.cut lo hi).up es⟩
theorem IsA.go2 {r : Rs} {As : List Asn} {S : Hp} {σ : L2.St} {H : Hp} {x : V} (h : IsA K env r As) (R : Rep c S env σ H) (q : ROk c S H env σ r x) : ∃ a xs, x = .ref a ∧ (H a = some (.lst xs) ∨ S a = some (.tup xs)) ∧ All S As xs := by
  cases h with
  | l h =>
    obtain ⟨a, xs, e, s, g⟩ := h.go R q
    exact ⟨a, xs, e, .inl s, g⟩
  | t =>
    obtain ⟨a, xs, rfl, s, g⟩ := q
    exact ⟨a, xs, rfl, .inr s, g⟩
  | q =>
    obtain ⟨a, xs, rfl, s, g⟩ := q
    exact ⟨a, xs, rfl, s.imp (R.sh _ _) id, g⟩
  | c h =>
    obtain ⟨a, xs, rfl, s, g⟩ := h _ _ q
    exact ⟨a, xs, rfl, s.imp (R.sh _ _) id, g⟩
theorem r_slSk {r : Rs} {As : List Asn} {lo hi : Option Int} (e0 : K' = K) (h : IsA K env r As) (q : k (.v (Sq K (cutA As lo hi))) env) : RS c (fun x lo hi H Q => rSlL K' x lo hi H Q ∨ rSlA K' x lo hi H Q) r lo hi env k := fun S σ H x Q R d qx z => by
  subst e0
  obtain ⟨a, ys, rfl, s, g⟩ := h.go2 R qx
  rcases s with s | s
  · refine .inl ⟨a, ys, rfl, Vb.sq_of s, fun p np => ?_⟩
    have es := Vb.same_new (o := .lst (cutV ys lo hi)) (R.s_none np)
    exact z _ _ _ (.v (Sq _ (cutA As lo hi))) env q es (R.new np) ⟨p, _, rfl, .inl upd_same, (g.cut lo hi).up es⟩
  · refine .inr ⟨a, ys, rfl, Vb.sqd R.sh s, fun e => ?_, fun _ p np => ?_⟩
    · exact z S _ H (.v (Sq _ (cutA As lo hi))) env q (Same.refl S) R ⟨a, ys, rfl, .inr s, by rw [cutA_all (by rw [g.len]; exact e)]; exact g⟩
    · have es := Vb.same_new (o := .tup (cutV ys lo hi)) (R.s_none np)
      exact z _ _ _ (.v (Sq _ (cutA As lo hi))) env q es (R.new np) ⟨p, _, rfl, .inr (upd_same), (g.cut lo hi).up es⟩
end
/-! ### makers of own objects -/
def IM (C : Addr) (φ : PSi) : PSp := fun As k X => φ As (fun fs => k (.v (Ob C fs))) X
section
variable {so : Option Addr} {c : Ct so} {K : PySem.W.Frag} {env : Ev} {k : Rs → Ev → Prop} {t : TA}
theorem e_makeI {C : Addr} {φ : PSi} {X : XE} {Ex : L2.St → XK} (hx : ExOk c X Ex) (h : EA c t env fun rs env1 => Cl (IM C φ) rs env1 k X) : E c (Vb.tMakeP C (toSpI C φ) Ex t) env k := e_make mkbr_I hx h
theorem e_makeI0 {C : Addr} {φ : PSi} {Ex : L2.St → XK} (h : EA c t env fun rs env1 => Cl (IM C φ) rs env1 k fun _ _ _ => False) : E c (Vb.tMakeP C (toSpI C φ) Ex t) env k := e_make (X := fun _ _ _ => False) mkbr_I ExOk.none h
theorem e_methN {te : TE} {C : Addr} {m : Str} {φ : PSp} {Ex : L2.St → XK} (h : E c te env fun r env1 => ∃ A, r = .v A ∧ NoM A C m ∧ EA c t env1 fun rs env2 => Cl φ (.v A :: rs) env2 k fun _ _ _ => False) : E c (Vb.tMethP C m (toSp φ) Ex te t) env k := e_meth (X := fun _ _ _ => False) ExOk.none h
theorem e_binPN {ta tb : TE} {C : Addr} {φ : PSp} {Ex : L2.St → XK} (h : E c ta env fun r env1 => ∃ A, r = .v A ∧ Ins A C ∧ E c tb env1 fun s env2 => ∃ B, s = .v B ∧ Ins B C ∧ Cl φ [.v A, .v B] env2 (fun r e => (∃ A C, r = .v A ∧ Ins A C) ∧ k r e) fun _ _ _ => False) : E c (Vb.tBinP C (toSp φ) Ex ta tb) env k := e_binP (X := fun _ _ _ => False) ExOk.none h
theorem e_negPN {ta : TE} {C : Addr} {φ : PSp} {Ex : L2.St → XK} (h : E c ta env fun r env1 => ∃ A, r = .v A ∧ Ins A C ∧ Cl φ [.v A] env1 k fun _ _ _ => False) : E c (Vb.tNegP C (toSp φ) Ex ta) env k := e_negP (X := fun _ _ _ => False) ExOk.none h
/-- within __init__: the end -/
theorem init_end {env : Ev} {C dx y : Addr} {fs : List (Str × Asn)} {kk : List (Str × Asn) → Prop} (e : env[0]? = some (.o (Ic C dx y fs))) (q : kk fs) : ∃ fs, env[0]? = some (.o (Ic C dx y fs)) ∧ kk fs := ⟨fs, e, q⟩
theorem q_sfld {i : Nat} {env2 : Ev} {C dx y : Addr} {f : Str} {fs : List (Str × Asn)} {A : Asn} {Q : Asn → Addr → Addr → Addr → List (Str × Asn) → Prop} (e : env2[i]? = some (.o (Ic C dx y fs))) (hc : Cls K C) (hn : PySem.W.findIn K (.ref C) f = some none) (l : fs.length < 1000) (q : Q A C dx y fs) : ∃ A' C' dx' y' fs', [A] = [A'] ∧ env2[i]? = some (.o (Ic C' dx' y' fs')) ∧ Cls K C' ∧ PySem.W.findIn K (.ref C') f = some none ∧ fs'.length < 1000 ∧ Q A' C' dx' y' fs' := ⟨A, C, dx, y, fs, rfl, e, hc, hn, l, q⟩
theorem w_sfldX {te : TE} {i : Nat} {f : Str} {nx : Ev → Prop} {rt : Rs → Prop} {bk ct : Ev → Prop} (h : E c te env fun r env1 => Z r fun r1 => Fz [r1] env1 fun Bs env2 => ∃ A C dx y fs, Bs = [A] ∧ env2[i]? = some (.o (Ic C dx y fs)) ∧ Cls K C ∧ PySem.W.findIn K (.ref C) f = some none ∧ fs.length < 1000 ∧ nx (env2.set i (.o (Ic C dx y (putA f A fs))))) : W c (sFld K (tVar i) te f) env ⟨nx, rt, bk, ct⟩ := fun S σ H d R e => by
  refine h S σ H _ R fun S1 x H1 r env1 g1 e1 R1 q1 => ?_
  obtain ⟨r1, S2, g2, d2, e2, R2, q2⟩ := g1.go R1 q1
  obtain ⟨S3, Bs, env3, ⟨A, C, dx, y, fs, rfl, h0, hc, hn, l, g3⟩, e3, R3, q3⟩ := g2.go (xs := [x]) R2 (fun _ => ⟨⟨d2, q2.up d2 (Same.refl S2)⟩, trivial⟩) S2 (Same.refl S2)
  obtain ⟨a, ob, ow, h1, h2, ha, gs, rfl, n, q⟩ := R3.own h0
  have ln : gs.length = fs.length := by rw [← List.length_map (f := Prod.fst), n, List.length_map]
  refine ⟨_, h1, a, C, dx, gs, rfl, h2, hc, hn, by omega, ?_⟩
  exact e.nx S3 _ _ _ g3 (e1.trans (e2.trans e3)) (R3.mut h0 h1 (C' := Ic C dx y (putA f A fs)) ⟨ha, _, rfl, put_names n, put_all q3.1 n q⟩)
end
end Pu
namespace Pu
open PySem PySem.Spec PyProof.Rows L2
/-! ### isinstance of own objects; a list of own objects is spoilt -/
theorem kit_own {K : PySem.W.Frag} {C : Addr} {n : String} {b : Bool} (m : PySem.W.kitMeta n = true) (s : PySem.W.subIn K (.ref C) (.type n) = some b) : PySem.W.kitOne K (.ref C) (.type n) = some b := by
  unfold PySem.W.kitOne
  rw [if_neg (by intro h; cases beq_iff_eq.mp h)]
  show (if PySem.W.kitMeta n = true then PySem.W.subIn K (.ref C) (.type n) else none) = _
  rw [if_pos m]
  exact s
section
variable {so : Option Addr} {c : Ct so} {K K' : PySem.W.Frag} {env : Ev} {k : Rs → Ev → Prop}
theorem r_isG {A : Asn} {y : V} {t u : Value} {b : Bool} (e0 : K' = K) (hy : ClsV y u) (ht : ∀ (S H : Hp) (v : V), Same S H → A.r S v → TyX K H v t) (e : PySem.W.kitOne K t u = some b) (q : k (.v (Bo b)) env) : RL c (rIsi K') [.v A, .v (Vl y)] env k := fun S σ H xs Q R qs z => by
  subst e0
  obtain _ | ⟨x', _ | ⟨y', _ | ⟨z', xs⟩⟩⟩ := xs
  · exact qs.elim
  · exact qs.2.elim
  · cases (show y' = y from qs.2.1.2)
    exact ⟨x', y, t, u, b, rfl, hy, ht S H x' R.sh qs.1.2, e, z S _ H _ env q (Same.refl S) R rfl⟩
  · exact qs.2.2.elim
theorem ins_ty {A : Asn} {C : Addr} [h : Ins A C] (ki : Vb.Ki K C) (hc : Cls K C) : ∀ (S H : Hp) (v : V), Same S H → A.r S v → TyX K H v (.ref C) := fun S H v e hv => by
  obtain ⟨a, dx, gs, rfl, s⟩ := h.g S v hv
  exact ki.tyx hc (e _ _ s)
theorem r_isOb {A : Asn} {C : Addr} (e0 : K' = K) (h : Ins A C) (ki : Vb.Ki K C) (hc : Cls K C) (q : k (.v (Bo true)) env) : RL c (rIsi K') [.v A, .v (Rf C)] env k := r_isG e0 (.own C) (ins_ty ki hc) ki.me q
theorem r_isOT {A : Asn} {C : Addr} {n : String} {b : Bool} (e0 : K' = K) (h : Ins A C) (ki : Vb.Ki K C) (hc : Cls K C) (m : PySem.W.kitMeta n = true) (s : PySem.W.subIn K (.ref C) (.type n) = some b) (q : k (.v (Bo b)) env) : RL c (rIsi K') [.v A, .v (Vl (.ty n))] env k := r_isG e0 (.ty n) (ins_ty ki hc) (kit_own m s) q
theorem r_isDO {A : Asn} {C : Addr} {d : PyData} (e0 : K' = K) (h : ToD K A d) (ki : Vb.Ki K C) (s : PySem.W.subIn K (.type (Vb.tyN d)) (.ref C) = some false) (q : k (.v (Bo false)) env) : RL c (rIsi K') [.v A, .v (Rf C)] env k := r_isG e0 (.own C) (fun S H v e hv => Vb.dp_ty (Vb.dp_same e _ _ (h.d S v hv))) (ki.of s) q
theorem e_spoilOX {α : Type} {f : α → Asn} {xs : List α} {C : Addr} {i : Nat} {Ex : L2.St → XK} (e : env[i]? = some (.o (Lc (xs.map f)))) (h : ∀ x, Ins (f x) C) (ki : Vb.Ki K C) (hc : Cls K C) (s : PySem.W.subIn K (.ref C) (.type "list") = some false) (l : (xs.map f).length ≤ 1000000) (q : k (.v No) (env.set i (.o (Lc ((xs.map f).reverse ++ [No]))))) : E c (tCallS (spSpoil K) Ex (tCons (tVar i) tNil)) env k := fun S σ H Q R z => by
  obtain ⟨a, ob, _, h1, h2, ys, rfl, g⟩ := R.own e
  refine Vb.r_callS (Vb.r_cons (Vb.r_var h1 (Vb.r_nil ?_)))
  refine ⟨a, rfl, .inr (.inr ⟨ys, C, h2, by rw [← g.len]; exact l, fun y m => ?_, ki, hc, s, ?_⟩)⟩
  · obtain ⟨j, hj⟩ := List.getElem?_of_mem m
    obtain ⟨A, hA, rA⟩ := g.at_ hj
    obtain ⟨x, _, rfl⟩ := getM hA
    obtain ⟨b, dx, fs, rfl, sb⟩ := (h x).g S y rA
    exact ⟨b, dx, fs, rfl, R.sh _ _ sb⟩
  · have u : ∀ o1 o2, upd (upd H a o1) a o2 = upd H a o2 := fun o1 o2 => by
      funext b
      by_cases e : b = a
      · rw [e, upd_same, upd_same]
      · rw [upd_ne e, upd_ne e, upd_ne e]
    rw [u]
    exact z S .non _ (.v No) _ q (Same.refl S) (R.mut e h1 (C' := Lc ((xs.map f).reverse ++ [No])) ⟨_, rfl, g.rev.app (All.one rfl)⟩) rfl
end
end Pu
namespace Pu
open PySem PySem.Spec PyProof.Rows L2
section
variable {so : Option Addr} {c : Ct so} {K K' : PySem.W.Frag} {env : Ev} {k : Rs → Ev → Prop}
theorem tyx_tup {H : Hp} {a : Addr} {xs : List V} (hs : SqT K H a xs) : TyX K H (.ref a) (.type "tuple") := by
  rcases hs with (h | ⟨o, h⟩) | h
  · exact .base (.tup h)
  · exact .fTuple h
  · obtain ⟨o, its, n, h, c, _⟩ := h
    exact .kTuple h c
theorem r_isLK {r : Rs} {As : List Asn} {n : String} {b : Bool} (e0 : K' = K) (h : IsL env r As) (e : kitB "list" n = some b) (q : k (.v (Bo b)) env) : RL c (rIsi K') [r, .v (Vl (.ty n))] env k := fun S σ H xs Q R qs z => by
  subst e0
  obtain _ | ⟨x', _ | ⟨y', _ | ⟨z', xs⟩⟩⟩ := xs
  · exact qs.elim
  · exact qs.2.elim
  · cases (show y' = .ty n from qs.2.1.2)
    obtain ⟨a, ys, rfl, s, _⟩ := h.go R qs.1.2
    exact ⟨_, _, _, _, b, rfl, .ty n, .base (.lst s), kit_ty e, z S _ H _ env q (Same.refl S) R rfl⟩
  · exact qs.2.2.elim
theorem r_isTK {As : List Asn} {n : String} {b : Bool} (e0 : K' = K) (e : kitB "tuple" n = some b) (q : k (.v (Bo b)) env) : RL c (rIsi K') [.v (Tu K As), .v (Vl (.ty n))] env k := r_isG e0 (.ty n) (fun S H v e hv => by
  obtain ⟨a, ys, rfl, s, _⟩ := hv
  exact tyx_tup (Vb.sqd e s)) (kit_ty e) q
theorem r_isiK {A : Asn} {d : PyData} {n : String} {b : Bool} (e0 : K' = K) (h : ToD K A d) (e : kitB (Vb.tyN d) n = some b) (q : k (.v (Bo b)) env) : RL c (rIsi K') [.v A, .v (Vl (.ty n))] env k := r_isG e0 (.ty n) (fun S H v e hv => Vb.dp_ty (Vb.dp_same e _ _ (h.d S v hv))) (kit_ty e) q
end
end Pu
namespace Vb
open PySem PySem.Spec PyProof.Rows L2
/-! ### sorted: tuples of ints, any number of them; a dict's keys -/
section
variable {prog : Program} {w : World} {A : Around} {E : Value → Shared → Prop} {s : Shared}
/-- by the code -/
def ltC (h : Heap) (B : Int) (v u : Value) : Bool := decide (TS.code B (TS.intsOf h v) < TS.code B (TS.intsOf h u))
theorem swo_code (h : Heap) (B : Int) : SrtO.Swo (ltC h B) := by
  refine ⟨fun x y h1 => ?_, fun x y z h1 h2 => ?_⟩
  · have a := of_decide_eq_true h1
    exact decide_eq_false (by omega)
  · have a := of_decide_eq_false h1
    have b := of_decide_eq_false h2
    exact decide_eq_false (by omega)
theorem tups_sortable {h0 : Heap} {a : Addr} {vs : List Value} {d : Nat} {B : Int} (hd : 1 ≤ d) (h2 : 2 ≤ vs.length) (x : TS.TupsOk h0 d B vs) (keep : ∀ b o, h0.get? b = some o → o.cls = .type "tuple" → b ≠ a ∧ s.heap.get? b = some o) : SrtO.SortableO prog w A s a vs (ltC h0 B) := by
  intro h' hk
  have kp : ∀ b o, h0.get? b = some o → o.cls = .type "tuple" → h'.get? b = some o := fun b o e c => hk b o (keep b o e c).1 (keep b o e c).2
  have x' := x.keeps kp
  obtain ⟨fs, k, hl, hi⟩ := TS.firsts_of hd vs x'
  refine ⟨_, fun Q E hQ => PySem.W.kat_kind (s := { s with heap := h' }) (T := Value.type "int") k (by omega) (fun f hf => ?_) rfl hQ, fun p q hp hq => ?_⟩
  · obtain ⟨n, t, rfl⟩ := hi f hf
    exact PySem.W.Looks.of_pure rfl
  · obtain ⟨ns, tp, lp, bp⟩ := x _ hp
    obtain ⟨ms, tq, lq, bq⟩ := x _ hq
    have hlt : SrtO.lt2 (ltC h0 B) p q = decide (TS.code B ns < TS.code B ms) := by
      show decide (TS.code B (TS.intsOf h0 p.1) < TS.code B (TS.intsOf h0 q.1)) = _
      rw [tp.ints, tq.ints]
    rw [hlt]
    obtain ⟨a1, xs, e1, ⟨o, ho, hc, n, hdt⟩, i⟩ := tp.keeps kp
    obtain ⟨a2, ys, e2, ⟨o', ho', hc', n', hdt'⟩, i'⟩ := tq.keeps kp
    rw [e1, e2]
    refine PySem.W.kat_lt ho hdt ho' hdt' ?_
    have sz : decide (xs.size < ys.size) = false := by
      have l1 := i.length
      have l2 := i'.length
      rw [Array.length_toList] at l1 l2
      exact decide_eq_false (by omega)
    rw [sz]
    exact TS.lex_ints 0 i i' (by omega) bp bq ⟨rfl, rfl⟩
end
theorem tups_out {h : Heap} {B : Int} {vs out : List Value} (hs : SrtO.Srtd (ltC h B) out) (hb : SrtO.Stb (ltC h B) out vs) : out.Perm vs ∧ out.Pairwise (fun u v => TS.code B (TS.intsOf h u) ≤ TS.code B (TS.intsOf h v)) := by
  refine ⟨hb.perm, hs.imp fun {u v} h => ?_⟩
  have := of_decide_eq_false h
  omega
section
variable {X : Cx} {pins : List (Addr × Obj)} {σ : L2.St} {H : Hp} {s : Shared}
/-- sorted(d), d a dict with tuples of n ints in [0, B) as keys: the key tuples themselves, ascending -/
def rSortDT : List V → Hp → VK → Prop := fun xs H Q => ∃ (n : Nat) (B : Int) (a : Addr) (kvs : List (List Key × V)) (ks : List (List Int)), xs = [.ref a] ∧ Rd H a (.dT kvs) ∧ kvs.map (·.1) = ks.map (·.map Sum.inl) ∧ (2 ≤ ks.length → 1 ≤ n) ∧ (∀ k ∈ ks, k.length = n ∧ TS.Bd B k) ∧
  ∀ (L : List (Addr × List Int)) (p : Addr), (L.map (·.2)).Perm ks → L.Pairwise (fun q r => TS.code B q.2 ≤ TS.code B r.2) → (∀ q ∈ L, H q.1 = some (.tup (q.2.map V.int))) → H p = none → Q (.ref p) (upd H p (.lst (L.map fun q => V.ref q.1)))
theorem kv_ints (k : List Int) : (k.map Sum.inl : List Key).map kV = k.map V.int := by
  rw [List.map_map]
  rfl
theorem kt_keys {kvs : List (List Key × V)} {kx : List (List Key × Addr × Value)} (r : KT H kvs kx) : kx.map (·.1) = kvs.map (·.1) ∧ ∀ x ∈ kx, H x.2.1 = some (.tup (x.1.map kV)) := by
  induction r with
  | nil => exact ⟨rfl, fun x m => by cases m⟩
  | @cons p q ps qs h t ih =>
    refine ⟨by rw [List.map_cons, List.map_cons, h.1, ih.1], fun x m => ?_⟩
    rcases List.mem_cons.mp m with rfl | m
    · rw [← h.1]
      exact h.2.1
    · exact ih.2 x m
theorem refs_of_items {acc : List Value} {kx : List (List Key × Addr × Value)} (l : acc.length = kx.length) (h : ∀ (j : Nat) (v : Value), acc[j]? = some v → ∃ x : List Key × Addr × Value, kx[j]? = some x ∧ v = Value.ref x.2.1) : acc = kx.map fun x => Value.ref x.2.1 := List.ext_getElem (by rw [List.length_map, l]) fun j h1 h2 => by
  obtain ⟨x, e1, e2⟩ := h j _ (List.getElem?_eq_getElem h1)
  rw [e2, List.getElem_map]
  rw [List.getElem?_eq_getElem (by rw [← l]; exact h1)] at e1
  rw [Option.some.inj e1]
theorem call_sortedDT (hc : X.calm = true) : CallR X (.builtin "sorted") rSortDT := by
  intro pins s σ H xs us Q I r h
  obtain ⟨n, B, a, kvs, ks, rfl, hd, hks, hn, hB, q⟩ := h
  obtain ⟨u, rfl, rx⟩ := r.one
  cases rx
  obtain ⟨z, hsys, kx, pr, o, es, ep, ho, hx, hdt, he, hnn⟩ := (show ObjOk X.prog X.w H s.heap a (.dT kvs) from hd.ok I.hok)
  have l1 : es.size = kx.length := size_of_entries he
  have l2 : kvs.length = kx.length := Paired.length pr
  have l3 : kvs.length = ks.length := by
    have := congrArg List.length hks
    rw [List.length_map, List.length_map] at this
    exact this
  obtain ⟨k1, k2⟩ := kt_keys pr
  refine Calls.call_function_entry PyProof.Rows.kind_sorted PyProof.Rows.plain_sorted PyProof.Rows.entry_sorted (PyProof.Rows.args_sorted1 _) ?_
  unfold Builtin.«sorted»
  refine wpAny_bind (m := checkCount "sorted" 1 1 _) (wpAny_pure ?_)
  refine wpAny_bind (PySem.W.kdu_collect (A := X.A.in1) (kdl_raw hsys hx hdt) (I.ok.hd hc) ho (by omega) fun h' tk acc hk it => ?_)
  have ea : acc.toList = kx.map fun x => Value.ref x.2.1 := refs_of_items (by rw [Array.length_toList, it.1]; exact l1) fun j v g => by
    obtain ⟨en, g1, rfl⟩ := it.2 j v (by rw [← Array.getElem?_toList]; exact g)
    have g2 := (entry_at he j).symm.trans g1
    obtain ⟨x, g3, rfl⟩ := Option.map_eq_some_iff.mp g2
    exact ⟨x, g3, rfl⟩
  have I1 : Inv X pins σ H { s with heap := h', toks := tk } := I.kept hk
  have kin : kx.map (·.1) = ks.map (·.map Sum.inl) := k1.trans hks
  have raw : ∀ x ∈ kx, ∃ k ∈ ks, x.1 = k.map Sum.inl ∧ H x.2.1 = some (.tup (k.map V.int)) ∧ TS.TupInts h' (.ref x.2.1) k := fun x m => by
    have m1 : x.1 ∈ ks.map (·.map Sum.inl) := by
      rw [← kin]
      exact List.mem_map.mpr ⟨x, m, rfl⟩
    obtain ⟨k, mk, e⟩ := List.mem_map.mp m1
    have ht : H x.2.1 = some (.tup (k.map V.int)) := by
      rw [k2 x m, ← e, kv_ints]
    exact ⟨k, mk, e.symm, ht, tupI_raw I1 (Vb.st_of ht)⟩
  have hz : acc.toList.length ≤ sizeLine := by rw [ea, List.length_map]; omega
  have hlen : acc.toList.length = ks.length := by rw [ea, List.length_map]; omega
  have ok : TS.TupsOk h' n B acc.toList := fun v m => by
    rw [ea] at m
    obtain ⟨x, mx, rfl⟩ := List.mem_map.mp m
    obtain ⟨k, mk, _, _, tk⟩ := raw x mx
    exact ⟨k, tk, hB k mk⟩
  refine wpAny_bind (wpAny_newList ?_ hz)
  have hoL : (h'.push (seqObj "list" acc.toList.toArray 0)).get? h'.objs.size = some (seqObj "list" acc.toList.toArray 0) := Heap.get?_push_size _ rfl
  show wpAny _ _ _ _ _ { s with heap := h'.push (seqObj "list" acc.toList.toArray 0), toks := tk }
  refine wpAny_bind (wpAny_holding (wpAny_call_entry PyProof.Rows.slot_list_sort ⟨_, hoL, rfl⟩ PyProof.Rows.entry_list_sort
    (SrtO.list_sort_ord (s := { s with heap := h'.push (seqObj "list" acc.toList.toArray 0), toks := tk }) (swo_code h' B) hoL hz (fun h2 => tups_sortable (hn (by omega)) h2 ok fun b o e _ => ⟨Nat.ne_of_lt (Heap.lt_size e), Heap.get?_push_of_some _ e⟩) fun out g1 g2 => ⟨_, rfl, ?_⟩) (PyProof.Rows.args_list_sort _)))
  obtain ⟨p1, p2⟩ := tups_out g1 g2
  obtain ⟨e', he'⟩ := PyProof.Rows.sortedHeap_at (vs := acc.toList) (out := out.toArray) hoL
  have href : ∀ v ∈ out, ∃ b k, v = Value.ref b ∧ k ∈ ks ∧ H b = some (.tup (k.map V.int)) ∧ TS.intsOf h' v = k := fun v m => by
    have m2 := p1.mem_iff.mp m
    rw [ea] at m2
    obtain ⟨x, mx, rfl⟩ := List.mem_map.mp m2
    obtain ⟨k, mk, _, ht, tk⟩ := raw x mx
    exact ⟨_, k, rfl, mk, ht, tk.ints⟩
  let L : List (Addr × List Int) := out.map fun v => ((match v with | .ref b => b | _ => 0), TS.intsOf h' v)
  have hL1 : (L.map (·.2)).Perm ks := by
    have e1 : L.map (·.2) = out.map (TS.intsOf h') := by rw [List.map_map]; rfl
    rw [e1]
    refine (p1.map _).trans ?_
    have e2 : acc.toList.map (TS.intsOf h') = ks := by
      rw [ea, List.map_map]
      have e3 : kx.map (TS.intsOf h' ∘ fun x => Value.ref x.2.1) = kx.map fun x => x.1.map fun k : Key => match k with | .inl i => i | .inr _ => 0 := by
        refine List.map_congr_left fun x mx => ?_
        obtain ⟨k, mk, ex, ht, tk⟩ := raw x mx
        show TS.intsOf h' (.ref x.2.1) = _
        rw [tk.ints, ex, List.map_map]
        exact (List.map_id _).symm
      rw [e3]
      have e4 : kx.map (fun x => x.1.map fun k : Key => match k with | .inl i => i | .inr _ => 0) = (kx.map (·.1)).map fun l => l.map fun k : Key => match k with | .inl i => i | .inr _ => 0 := by rw [List.map_map]; rfl
      rw [e4, kin, List.map_map]
      refine (List.map_congr_left fun k _ => ?_).trans (List.map_id _)
      show (k.map Sum.inl).map _ = k
      rw [List.map_map]
      exact List.map_id _
    rw [e2]
  have hL2 : L.Pairwise (fun q r => TS.code B q.2 ≤ TS.code B r.2) := List.pairwise_map.mpr p2
  have hL3 : ∀ q ∈ L, H q.1 = some (.tup (q.2.map V.int)) := fun q m => by
    obtain ⟨v, mv, rfl⟩ := List.mem_map.mp m
    obtain ⟨b, k, rfl, _, ht, ei⟩ := href v mv
    show H b = some (.tup ((TS.intsOf h' (.ref b)).map V.int))
    rw [ei]
    exact ht
  have hL4 : L.map (fun q => V.ref q.1) = out.map L2.bkV := by
    rw [List.map_map]
    refine List.map_congr_left fun v m => ?_
    obtain ⟨b, k, rfl, _⟩ := href v m
    rfl
  have hln : (L.map fun q => V.ref q.1).length ≤ sizeLine := by
    rw [hL4, List.length_map, p1.length_eq]
    exact hz
  refine wpAny_pure ⟨_, rfl, .ref h'.objs.size, upd H h'.objs.size (.lst (L.map fun q => V.ref q.1)), I1.laid (t' := tk) (fun b u e => ?_) (Nat.le_refl _)
    (show ObjOk X.prog X.w _ _ _ (.lst (L.map fun q => V.ref q.1)) from ⟨hln, out, e', by rw [hL4]; exact L2.bkV_vals fun v m => (href v m).elim fun b h => h.elim fun k h => ⟨b, h.1⟩, he'⟩), rfl, q L _ hL1 hL2 hL3 (I1.hok.fresh (Nat.le_refl _))⟩
  have hb : b < h'.objs.size := Heap.lt_size e
  rw [PyProof.Rows.sortedHeap_old (Nat.ne_of_lt hb) (by rw [size_push']; exact Nat.lt_succ_of_lt hb)]
  exact Heap.get?_push_of_some _ e
end
end Vb
namespace Pu
open PySem PySem.Spec PyProof.Rows L2
/-! ### dicts whose keys are tuples of ints -/
def kvL (ks : List (List Int)) (vs : List V) : List (List Key × V) := List.zipWith (fun k v => ((k.map Sum.inl : List Key), v)) ks vs
section
variable {α : Type}
/-- what stands at a key -/
def gk (kvs : List (List Int × α)) (k : List Int) : Option α := (kvs.find? fun p => decide (p.1 = k)).map Prod.snd
/-- in its place, or at the end -/
def pk (kvs : List (List Int × α)) (k : List Int) (a : α) : List (List Int × α) := if (kvs.any fun p => decide (p.1 = k)) = true then kvs.map (fun p => if p.1 = k then (p.1, a) else p) else kvs ++ [(k, a)]
theorem pk_len {kvs : List (List Int × α)} {k : List Int} {a : α} : (pk kvs k a).length ≤ kvs.length + 1 := by
  unfold pk
  split
  · rw [List.length_map]; omega
  · rw [List.length_append]; exact Nat.le_refl _
theorem inl_inj {k m : List Int} : (k.map Sum.inl : List Key) = m.map Sum.inl ↔ k = m := by
  constructor
  · intro h
    have := congrArg (List.map fun x : Key => match x with | .inl i => i | .inr _ => 0) h
    rw [List.map_map, List.map_map] at this
    have e : ∀ l : List Int, l.map ((fun x : Key => match x with | .inl i => i | .inr _ => 0) ∘ Sum.inl) = l := fun l => List.map_id l
    rwa [e, e] at this
  · intro h; rw [h]
end
def DT (kvs : List (List Int × Asn)) : Cn := ⟨fun S _ o => ∃ vs, o = .dT (kvL (kvs.map Prod.fst) vs) ∧ All S (kvs.map Prod.snd) vs, fun e ⟨vs, h, g⟩ => ⟨vs, h, g.up e⟩, fun ⟨vs, h, _⟩ z => by rw [h] at z; exact z⟩
/-- a dict that nobody changes any more -/
def Dv (kvs : List (List Int × Asn)) : Asn := ⟨fun S v => ∃ a vs, v = .ref a ∧ S a = some (.dT (kvL (kvs.map Prod.fst) vs)) ∧ All S (kvs.map Prod.snd) vs, fun e ⟨a, vs, h, g, q⟩ => ⟨a, vs, h, e _ _ g, q.up e⟩⟩
section
variable {S : Hp}
theorem dt_get {k : List Int} : ∀ {kvs : List (List Int × Asn)} {vs : List V}, All S (kvs.map Prod.snd) vs → (gk kvs k = none ∧ valV (kvL (kvs.map Prod.fst) vs) (k.map Sum.inl) = none) ∨ ∃ A v, gk kvs k = some A ∧ valV (kvL (kvs.map Prod.fst) vs) (k.map Sum.inl) = some v ∧ A.r S v
  | [], [], _ => .inl ⟨rfl, rfl⟩
  | [], _ :: _, h => h.elim
  | _ :: _, [], h => h.elim
  | (m, A) :: kvs, v :: vs, h => by
    by_cases e : m = k
    · subst e
      refine .inr ⟨A, v, ?_, ?_, h.1⟩
      · unfold gk
        rw [List.find?_cons]
        simp
      · exact valV_pos (p := ((m.map Sum.inl : List Key), v)) (r := kvL (kvs.map Prod.fst) vs) rfl
    · have e1 : gk ((m, A) :: kvs) k = gk kvs k := by
        unfold gk
        rw [List.find?_cons]
        simp [e]
      have e2 : valV (kvL (((m, A) :: kvs).map Prod.fst) (v :: vs)) (k.map Sum.inl) = valV (kvL (kvs.map Prod.fst) vs) (k.map Sum.inl) := valV_neg (p := ((m.map Sum.inl : List Key), v)) (r := kvL (kvs.map Prod.fst) vs) (fun h => e (inl_inj.mp h))
      rw [e1, e2]
      exact dt_get h.2
theorem kvL_any {k : List Int} : ∀ {kvs : List (List Int × Asn)} {vs : List V}, All S (kvs.map Prod.snd) vs → ((kvL (kvs.map Prod.fst) vs).any fun kv => decide (kv.1 = k.map Sum.inl)) = kvs.any fun p => decide (p.1 = k)
  | [], [], _ => rfl
  | [], _ :: _, h => h.elim
  | _ :: _, [], h => h.elim
  | (m, A) :: kvs, v :: vs, h => by
    show (decide ((m.map Sum.inl : List Key) = k.map Sum.inl) || (kvL (kvs.map Prod.fst) vs).any _) = (decide (m = k) || kvs.any _)
    rw [kvL_any h.2]
    congr 1
    exact decide_eq_decide.mpr inl_inj
theorem dt_put {k : List Int} {A : Asn} {v : V} (hA : A.r S v) {kvs : List (List Int × Asn)} {vs : List V} (h : All S (kvs.map Prod.snd) vs) : ∃ us, putK (kvL (kvs.map Prod.fst) vs) (k.map Sum.inl) v = kvL ((pk kvs k A).map Prod.fst) us ∧ All S ((pk kvs k A).map Prod.snd) us := by
  unfold putK pk
  rw [kvL_any h]
  by_cases c : (kvs.any fun p => decide (p.1 = k)) = true
  · rw [if_pos c, if_pos c]
    clear c
    induction kvs generalizing vs with
    | nil => cases vs with | nil => exact ⟨[], rfl, trivial⟩ | cons => exact h.elim
    | cons p kvs ih =>
      obtain ⟨m, B⟩ := p
      cases vs with
      | nil => exact h.elim
      | cons u vs =>
        obtain ⟨us, e1, e2⟩ := ih h.2
        by_cases e : m = k
        · subst e
          refine ⟨v :: us, ?_, ?_⟩
          · show (if (m.map Sum.inl : List Key) = m.map Sum.inl then ((m.map Sum.inl : List Key), v) else _) :: (kvL (kvs.map Prod.fst) vs).map _ = _
            rw [if_pos rfl, e1]
            show _ = kvL (List.map Prod.fst ((if m = m then (m, A) else (m, B)) :: _)) (v :: us)
            rw [if_pos rfl]
            rfl
          · show All S (List.map Prod.snd ((if m = m then (m, A) else (m, B)) :: _)) (v :: us)
            rw [if_pos rfl]
            exact ⟨hA, e2⟩
        · have ne : ¬ (m.map Sum.inl : List Key) = k.map Sum.inl := fun h => e (inl_inj.mp h)
          refine ⟨u :: us, ?_, ?_⟩
          · show (if (m.map Sum.inl : List Key) = k.map Sum.inl then _ else ((m.map Sum.inl : List Key), u)) :: (kvL (kvs.map Prod.fst) vs).map _ = _
            rw [if_neg ne, e1]
            show _ = kvL (List.map Prod.fst ((if m = k then (m, A) else (m, B)) :: _)) (u :: us)
            rw [if_neg e]
            rfl
          · show All S (List.map Prod.snd ((if m = k then (m, A) else (m, B)) :: _)) (u :: us)
            rw [if_neg e]
            exact ⟨h.1, e2⟩
  · rw [if_neg c, if_neg c]
    refine ⟨vs ++ [v], ?_, ?_⟩
    · rw [List.map_append]
      unfold kvL
      rw [List.zipWith_append (by rw [List.length_map, ← h.len, List.length_map])]
      rfl
    · rw [List.map_append]
      exact h.app (All.one hA)
theorem kvL_len {kvs : List (List Int × Asn)} {vs : List V} (h : All S (kvs.map Prod.snd) vs) : (kvL (kvs.map Prod.fst) vs).length = kvs.length := by
  have := h.len
  rw [List.length_map] at this
  unfold kvL
  rw [List.length_zipWith, List.length_map]
  omega
theorem kvL_fst {kvs : List (List Int × Asn)} {vs : List V} (h : All S (kvs.map Prod.snd) vs) : (kvL (kvs.map Prod.fst) vs).map (·.1) = (kvs.map Prod.fst).map (·.map Sum.inl) := by
  induction kvs generalizing vs with
  | nil => cases vs with | nil => rfl | cons => exact h.elim
  | cons p kvs ih =>
    cases vs with
    | nil => exact h.elim
    | cons v vs =>
      show _ :: (kvL (kvs.map Prod.fst) vs).map _ = _ :: _
      rw [ih h.2]
end
section
variable {so : Option Addr} {c : Ct so} {K : PySem.W.Frag} {S : Hp} {env : Ev} {σ : L2.St} {H : Hp} {k : Rs → Ev → Prop} {te ti tx ty td : TE} {nx : Ev → Prop} {rt : Rs → Prop} {bk ct : Ev → Prop}
/-- every tuple that is there is known -/
theorem Rep.fixS (R : Rep c S env σ H) : ∃ S', Same S S' ∧ Rep c S' env σ H ∧ ∀ b xs, H b = some (.tup xs) → S' b = some (.tup xs) := by
  let S' : Hp := fun b => match S b with
    | some o => some o
    | none => match H b with
      | some (.tup xs) => some (.tup xs)
      | _ => none
  have e1 : ∀ {b o}, S b = some o → S' b = some o := fun {b o} h => by
    show (match S b with | some o => some o | none => _) = _
    rw [h]
  have e2 : ∀ {b}, S b = none → S' b = match H b with | some (.tup xs) => some (.tup xs) | _ => none := fun {b} h => by
    show (match S b with | some o => some o | none => _) = _
    rw [h]
  have e3 : ∀ {b o}, S' b = some o → S b = some o ∨ (S b = none ∧ H b = some o ∧ Fix o) := fun {b o} h => by
    cases g : S b with
    | some u => rw [e1 g] at h; exact .inl h
    | none =>
      rw [e2 g] at h
      cases g2 : H b with
      | none => rw [g2] at h; cases h
      | some u =>
        rw [g2] at h
        cases u <;> first | (cases h; exact .inr ⟨rfl, rfl, trivial⟩) | cases h
  refine ⟨S', fun b o h => e1 h, R.to (Frm.refl R.stf) (fun b o h => e1 h) (fun b o h => (e3 h).elim (R.sh b o) (·.2.1)) (fun b o h => (e3 h).elim .inl fun g => .inr (.inr g.2.2)) fun i a ow => ⟨rfl, ?_⟩, fun b xs h => ?_⟩
  · obtain ⟨⟨C, h0⟩, h0'⟩ := id ow
    obtain ⟨a', ob, _, h1, z, hC⟩ := R.own h0
    rw [h0'] at h1
    cases h1
    cases y : S' a with
    | none => rfl
    | some u =>
      rcases e3 y with y' | y'
      · rw [(R.fr i a ow).2] at y'; cases y'
      · rw [z] at y'
        cases y'.2.1
        exact absurd y'.2.2 (C.nf hC)
  · cases g : S b with
    | some u =>
      have := R.sh _ _ g
      rw [h] at this
      cases this
      exact e1 g
    | none => rw [e2 g, h]
theorem e_dnew (q : k (.o (DT [])) env) : E c tDNewT env k := fun S σ H Q R z p np => by
  obtain ⟨R3, q3⟩ := R.newO (p := p) (ob := .dT []) (C := DT []) np ⟨[], rfl, trivial⟩
  exact z _ _ _ (.o (DT [])) env q (Same.refl S) R3 q3
theorem key_of_tu {ks : List Int} {y : V} (h : (Tu K (ks.map I)).r S y) : ∃ b, y = .ref b ∧ S b = some (.tup ((ks.map Sum.inl : List Key).map kV)) := by
  obtain ⟨b, xs, rfl, s, g⟩ := h
  exact ⟨b, rfl, by rw [Vb.kv_ints, s, All.ints g]⟩
/-- d[k] = e, d one's own -/
theorem w_dset {i : Nat} (h : E c te env fun r env1 => Z r fun r1 => (∃ kvs0, env1[i]? = some (.o (DT kvs0))) ∧ E c ti env1 fun s env2 => ∃ m, s = .v (Tu K (m.map I)) ∧ Fz [r1] env2 fun Bs env3 => ∃ kvs A, Bs = [A] ∧ env3[i]? = some (.o (DT kvs)) ∧ kvs.length < 16777216 ∧ nx (env3.set i (.o (DT (pk kvs m A))))) : W c (tAsg te (gSub (tVar i) ti rSetD)) env ⟨nx, rt, bk, ct⟩ := fun S σ H d R e => by
  refine h S σ H _ R fun S1 x H1 r env1 g1 e1 R1 q1 => ?_
  obtain ⟨r1, S2, ⟨⟨_, h0⟩, g2⟩, d2, e2, R2, q2⟩ := g1.go R1 q1
  obtain ⟨a, ob, _, h1, h2, vs, rfl, g⟩ := R2.own h0
  refine ⟨_, h1, ?_⟩
  refine g2 S2 σ H1 _ R2 fun S3 y H3 s env3 g3 e3 R3 q3 => ?_
  obtain ⟨m, rfl, g4⟩ := g3
  obtain ⟨b, rfl, hb⟩ := key_of_tu q3
  obtain ⟨S4, Bs, env4, ⟨kvs, A, rfl, h3, l, g5⟩, e4, R4, q4⟩ := g4.go (xs := [x]) R3 (fun _ => ⟨⟨d2, (q2.up d2 e3 : ROk c S3 H3 env3 σ r1 x).up d2 (Same.refl S3)⟩, trivial⟩) S3 (Same.refl S3)
  obtain ⟨a', ob', _, h4, h5, us, rfl, g6⟩ := R4.own h3
  rw [h1] at h4
  cases h4
  obtain ⟨ws, p1, p2⟩ := dt_put (k := m) q4.1 g6
  refine ⟨a, _, rfl, DPut.t h5 (R4.sh _ _ (e4 _ _ hb)) (by rw [kvL_len g6]; exact Vb.size_lt l), ?_⟩
  rw [p1]
  exact e.nx S4 _ _ _ g5 (e1.trans (e2.trans (e3.trans e4))) (R4.mut h3 h1 (C' := DT (pk kvs m A)) ⟨_, rfl, p2⟩)
/-- d.get(k, x), d one's own -/
theorem e_dget2 {i : Nat} {kvs0 : List (List Int × Asn)} (h0 : env[i]? = some (.o (DT kvs0))) (h : E c ty env fun r env1 => ∃ m, r = .v (Tu K (m.map I)) ∧ E c tx env1 fun s env2 => Z s fun s1 => ∃ B kvs, s1 = .v B ∧ env2[i]? = some (.o (DT kvs)) ∧ k (.v ((gk kvs m).getD B)) env2) : E c (tDGet2 (tVar i) ty tx) env k := fun S σ H Q R z => by
  obtain ⟨a, ob, _, h1, h2, vs, rfl, g⟩ := R.own h0
  refine ⟨_, h1, a, rfl, .inr ⟨_, .inl h2⟩, ?_⟩
  refine h S σ H _ R fun S1 y H1 r env1 g1 e1 R1 q1 => ?_
  obtain ⟨m, rfl, g1⟩ := g1
  obtain ⟨b, rfl, hb⟩ := key_of_tu q1
  refine g1 S1 σ H1 _ R1 fun S2 x H2 s env2 g2 e2 R2 q2 => ?_
  obtain ⟨s1, S3, ⟨B, kvs, rfl, h3, g3⟩, d3, e3, R3, q3⟩ := g2.go R2 q2
  obtain ⟨a', ob', _, h4, h5, us, rfl, g6⟩ := R3.own h3
  rw [h1] at h4
  cases h4
  have ee := e1.trans (e2.trans e3)
  refine ⟨_, DGet.t h5 (R3.sh _ _ ((e2.trans e3) _ _ hb)), ?_⟩
  rcases dt_get (k := m) g6 with ⟨n1, n2⟩ | ⟨A, v, n1, n2, n3⟩
  · rw [n2]
    rw [n1] at g3
    exact z S3 _ _ _ env2 g3 ee R3 q3
  · rw [n2]
    rw [n1] at g3
    exact z S3 _ _ _ env2 g3 ee R3 n3
/-- d.get(k, x), d a value -/
theorem e_dget2v (h : E c td env fun r env0 => ∃ kvs, r = .v (Dv kvs) ∧ E c ty env0 fun r env1 => ∃ m, r = .v (Tu K (m.map I)) ∧ E c tx env1 fun s env2 => Z s fun s1 => ∃ B, s1 = .v B ∧ k (.v ((gk kvs m).getD B)) env2) : E c (tDGet2 td ty tx) env k := fun S σ H Q R z => by
  refine h S σ H _ R fun S0 x0 H0 r0 env0 g0 e0 R0 q0 => ?_
  obtain ⟨kvs, rfl, g0⟩ := g0
  obtain ⟨a, vs, rfl, sa, ga⟩ := q0
  refine ⟨a, rfl, .inr ⟨_, .inl (R0.sh _ _ sa)⟩, ?_⟩
  refine g0 S0 σ H0 _ R0 fun S1 y H1 r env1 g1 e1 R1 q1 => ?_
  obtain ⟨m, rfl, g1⟩ := g1
  obtain ⟨b, rfl, hb⟩ := key_of_tu q1
  refine g1 S1 σ H1 _ R1 fun S2 x H2 s env2 g2 e2 R2 q2 => ?_
  obtain ⟨s1, S3, ⟨B, rfl, g3⟩, d3, e3, R3, q3⟩ := g2.go R2 q2
  have ee := e1.trans (e2.trans e3)
  refine ⟨_, DGet.t (R3.sh _ _ (ee _ _ sa)) (R3.sh _ _ ((e2.trans e3) _ _ hb)), ?_⟩
  rcases dt_get (k := m) (ga.up ee) with ⟨n1, n2⟩ | ⟨A, v, n1, n2, n3⟩
  · rw [n2]
    rw [n1] at g3
    exact z S3 _ _ _ env2 g3 (e0.trans ee) R3 q3
  · rw [n2]
    rw [n1] at g3
    exact z S3 _ _ _ env2 g3 (e0.trans ee) R3 n3
/-- d[k], d one's own -/
theorem e_dget {i : Nat} {kvs0 : List (List Int × Asn)} (h0 : env[i]? = some (.o (DT kvs0))) (h : E c ty env fun r env1 => ∃ m A kvs, r = .v (Tu K (m.map I)) ∧ env1[i]? = some (.o (DT kvs)) ∧ gk kvs m = some A ∧ k (.v A) env1) : E c (tDGet (tVar i) ty) env k := fun S σ H Q R z => by
  obtain ⟨a, ob, _, h1, h2, vs, rfl, g⟩ := R.own h0
  refine ⟨_, h1, ?_⟩
  refine h S σ H _ R fun S1 y H1 r env1 g1 e1 R1 q1 => ?_
  obtain ⟨m, A, kvs, rfl, h3, hg, g1⟩ := g1
  obtain ⟨b, rfl, hb⟩ := key_of_tu q1
  obtain ⟨a', ob', _, h4, h5, us, rfl, g6⟩ := R1.own h3
  rw [h1] at h4
  cases h4
  rcases dt_get (k := m) g6 with ⟨n1, n2⟩ | ⟨A', v, n1, n2, n3⟩
  · rw [n1] at hg; cases hg
  · rw [n1] at hg
    cases hg
    exact ⟨a, v, rfl, by rw [← n2]; exact DGet.t h5 (R1.sh _ _ hb), z S1 v _ _ env1 g1 e1 R1 n3⟩
theorem e_dgetv (h : E c td env fun r env0 => ∃ kvs, r = .v (Dv kvs) ∧ E c ty env0 fun r env1 => ∃ m A, r = .v (Tu K (m.map I)) ∧ gk kvs m = some A ∧ k (.v A) env1) : E c (tDGet td ty) env k := fun S σ H Q R z => by
  refine h S σ H _ R fun S0 x0 H0 r0 env0 g0 e0 R0 q0 => ?_
  obtain ⟨kvs, rfl, g0⟩ := g0
  obtain ⟨a, vs, rfl, sa, ga⟩ := q0
  refine g0 S0 σ H0 _ R0 fun S1 y H1 r env1 g1 e1 R1 q1 => ?_
  obtain ⟨m, A, rfl, hg, g1⟩ := g1
  obtain ⟨b, rfl, hb⟩ := key_of_tu q1
  rcases dt_get (k := m) (ga.up e1) with ⟨n1, n2⟩ | ⟨A', v, n1, n2, n3⟩
  · rw [n1] at hg; cases hg
  · rw [n1] at hg
    cases hg
    exact ⟨a, v, rfl, by rw [← n2]; exact DGet.t (R1.sh _ _ (e1 _ _ sa)) (R1.sh _ _ hb), z S1 v _ _ env1 g1 (e0.trans e1) R1 n3⟩
/-- r is a dict -/
inductive IsDt (env : Ev) : Rs → List (List Int × Asn) → Prop
  | v {kvs : List (List Int × Asn)} : IsDt env (.v (Dv kvs)) kvs
  | cp {i : Nat} {kvs : List (List Int × Asn)} : env[i]? = some (.o (DT kvs)) → IsDt env (.cp i) kvs
theorem IsDt.go {r : Rs} {kvs : List (List Int × Asn)} {x : V} (h : IsDt env r kvs) (R : Rep c S env σ H) (q : ROk c S H env σ r x) : ∃ a vs, x = .ref a ∧ H a = some (.dT (kvL (kvs.map Prod.fst) vs)) ∧ All S (kvs.map Prod.snd) vs := by
  cases h with
  | v =>
    obtain ⟨a, vs, rfl, s, g⟩ := q
    exact ⟨a, vs, rfl, R.sh _ _ s, g⟩
  | cp h =>
    obtain ⟨a, ob, _, h1, h2, vs, rfl, g⟩ := R.own h
    have q : σ[_]? = some (some x) := q
    rw [h1] at q
    cases q
    exact ⟨a, vs, rfl, h2, g⟩
/-- sorted(d) -/
theorem r_sortD {r : Rs} {kvs : List (List Int × Asn)} (n : Nat) (B : Int) (h : IsDt env r kvs) (hn : 2 ≤ kvs.length → 1 ≤ n) (hB : ∀ p ∈ kvs, p.1.length = n ∧ TS.Bd B p.1) (q : ∀ ks : List (List Int), ks.Perm (kvs.map Prod.fst) → ks.Pairwise (fun a b => TS.code B a ≤ TS.code B b) → k (.o (Lc (ks.map fun m => Tu K (m.map I)))) env) : RL c Vb.rSortDT [r] env k := fun S σ H xs Q R qs z => by
  obtain _ | ⟨x', _ | ⟨y', xs⟩⟩ := xs
  · exact qs.elim
  · obtain ⟨a, vs, rfl, ha, g⟩ := h.go R qs.1.2
    refine ⟨n, B, a, _, kvs.map Prod.fst, rfl, .inl ha, kvL_fst g, by rw [List.length_map]; exact hn, fun m mm => ?_, fun L p hL hp ht np => ?_⟩
    · obtain ⟨p, mp, rfl⟩ := List.mem_map.mp mm
      exact hB p mp
    · obtain ⟨S', e, R', f⟩ := R.fixS
      have al : All S' ((L.map (·.2)).map fun m => Tu K (m.map I)) (L.map fun q => V.ref q.1) := by
        clear hL hp
        induction L with
        | nil => trivial
        | cons q L ih => exact ⟨⟨q.1, _, rfl, f _ _ (ht q (List.mem_cons_self ..)), All.of_ints _⟩, ih fun q m => ht q (List.mem_cons_of_mem _ m)⟩
      exact newL R' al (q _ hL (List.pairwise_map.mpr hp)) e z p np
  · exact qs.2.elim
end
end Pu
namespace Pu
open PySem PySem.Spec PyProof.Rows L2
section
variable {so : Option Addr} {c : Ct so} {K : PySem.W.Frag} {env : Ev}
theorem q_dk {m : List Int} {Q : List Int → Prop} (q : Q m) : ∃ m', Rs.v (Tu K (m.map I)) = .v (Tu K (m'.map I)) ∧ Q m' := ⟨m, rfl, q⟩
theorem q_dg2 {i : Nat} {B : Asn} {kvs : List (List Int × Asn)} {Q : Asn → List (List Int × Asn) → Prop} (e : env[i]? = some (.o (DT kvs))) (q : Q B kvs) : ∃ B' kvs', Rs.v B = .v B' ∧ env[i]? = some (.o (DT kvs')) ∧ Q B' kvs' := ⟨B, kvs, rfl, e, q⟩
theorem q_subD {i : Nat} {Q : Prop} {kvs : List (List Int × Asn)} (e : env[i]? = some (.o (DT kvs))) (q : Q) : (∃ kvs, env[i]? = some (.o (DT kvs))) ∧ Q := ⟨⟨_, e⟩, q⟩
theorem q_dset {i : Nat} {A : Asn} {kvs : List (List Int × Asn)} {Q : List (List Int × Asn) → Asn → Prop} (e : env[i]? = some (.o (DT kvs))) (l : kvs.length < 16777216) (q : Q kvs A) : ∃ kvs' A', [A] = [A'] ∧ env[i]? = some (.o (DT kvs')) ∧ kvs'.length < 16777216 ∧ Q kvs' A' := ⟨kvs, A, rfl, e, l, q⟩
theorem q_dg {i : Nat} {m : List Int} {A : Asn} {kvs : List (List Int × Asn)} {Q : Asn → Prop} (e : env[i]? = some (.o (DT kvs))) (h : gk kvs m = some A) (q : Q A) : ∃ m' A' kvs', Rs.v (Tu K (m.map I)) = .v (Tu K (m'.map I)) ∧ env[i]? = some (.o (DT kvs')) ∧ gk kvs' m' = some A' ∧ Q A' := ⟨m, A, kvs, rfl, e, h, q⟩
theorem q_dgv {m : List Int} {A : Asn} {kvs : List (List Int × Asn)} {Q : Asn → Prop} (h : gk kvs m = some A) (q : Q A) : ∃ m' A', Rs.v (Tu K (m.map I)) = .v (Tu K (m'.map I)) ∧ gk kvs m' = some A' ∧ Q A' := ⟨m, A, rfl, h, q⟩
theorem q_dv {kvs : List (List Int × Asn)} {Q : List (List Int × Asn) → Prop} (q : Q kvs) : ∃ kvs', Rs.v (Dv kvs) = .v (Dv kvs') ∧ Q kvs' := ⟨kvs, rfl, q⟩
theorem q_b {B : Asn} {Q : Asn → Prop} (q : Q B) : ∃ B', Rs.v B = .v B' ∧ Q B' := ⟨B, rfl, q⟩
end
end Pu
namespace Vb
open PySem PySem.Spec PyProof.Rows L2
/-! ### max(xs, default=d) -/
section
variable {prog : Program} {w : World} {A : Around} {R : PySem.Result → Shared → Prop} {I : Addr} {fp wr : List Addr} {n : Nat} {P : Nat → Value → Prop} {St : Nat → Heap → Prop}
/-- the best so far, held twice; none ahead of the first turn -/
inductive Held (bt : Nat → Nat → Bool) (P : Nat → Value → Prop) : Nat → Array Value → Prop
  | start : Held bt P 0 #[]
  | best {j : Nat} {v : Value} : P (argBest bt j) v → Held bt P (j + 1) #[v, v]
theorem maxD_loop (d : Value) (W : Walks prog w A.in1 I fp wr n P St) (bt : Nat → Nat → Bool) (hcmp : CmpOf prog w A.in1 .Gt P bt) (B : Addr) (hB : B ∉ fp) : ∀ (k j : Nat) (s : Shared) (its : Array Value) (c : Nat), n - j = k → j ≤ n → St j s.heap → Held bt P j its → s.heap.get? B = some { cls := .type "list", dict := none, data := .seq its c, slots := #[] } →
    (∀ v h' tk, ((n = 0 ∧ v = d) ∨ (0 < n ∧ P (argBest bt (n - 1)) v)) → (∀ b o, b ∉ wr → b ≠ B → s.heap.get? b = some o → h'.get? b = some o) → R (.ok (.ret v)) { s with heap := h', toks := tk }) →
    codeAny (model prog w) A (.builtin "max.loop" ⟨[.ref I, .none, .ref B], [("default", d)]⟩) R s := by
  have nm : (toString "max" ++ toString ".loop" : String) = "max.loop" := by decide
  have Bw : B ∉ wr := fun h => hB (W.sub _ h)
  intro k
  induction k with
  | zero =>
    intro j s its c e1 e2 st hl hO q
    obtain rfl : j = n := by omega
    refine codeAny_builtin F.entry_max_loop ?_
    rw [Around.under_plainId F.plain_max_loop _]
    refine wpAny_bind (wpAny_seqItems hO rfl ?_)
    refine wpAny_bind (wpAny_tryCatch (W.done s _ _ st fun h' tk kp => ?_))
    have hO2 := kp B _ Bw hO
    cases hl with
    | start => exact wpAny_bind (wpAny_rule (wpAny_pure (q d h' tk (.inl ⟨rfl, rfl⟩) fun b o n1 _ e => kp b o n1 e)))
    | @best j v hp =>
      show wpAny _ _ (updateSeq B (fun _ => #[]) >>= _) _ _ _
      refine wpAny_bind ?_
      refine wpAny_updateSeq hO2 rfl (wpAny_bind (wpAny_letGo (wpAny_pure ?_)))
      exact q v _ tk (.inr ⟨Nat.succ_pos _, hp⟩) fun b o n1 n2 e => (Heap.get?_update_other _ _ (Ne.symm n2)).trans (kp b o n1 e)
  | succ k ih =>
    intro j s its c e1 e2 st hl hO q
    have lt : j < n := by omega
    refine codeAny_builtin F.entry_max_loop ?_
    rw [Around.under_plainId F.plain_max_loop _]
    refine wpAny_bind (wpAny_seqItems hO rfl ?_)
    refine wpAny_bind (wpAny_tryCatch (W.item j s _ _ lt st fun v h' tk hv st' kp => ?_))
    have hO2 := kp B _ Bw hO
    have up : ∀ (g : Array Value → Array Value) h2, h2 = h'.update B (Obj.mapSeq g) → St (j + 1) h2 := fun g h2 e => by
      subst e
      exact W.frame _ _ _ st' fun b bf o e => (Heap.get?_update_other _ _ (fun z : B = b => hB (by rw [z]; exact bf))).trans e
    cases hl with
    | start =>
      show wpAny _ _ (updateSeq B (fun _ => #[v, v]) >>= _) _ _ _
      refine wpAny_bind ?_
      refine wpAny_updateSeq hO2 rfl ?_
      rw [nm]
      refine wpAny_pure ⟨plainId_quiet F.plain_max_loop _, ih 1 _ _ _ (by omega) (by omega) (up _ _ rfl) (.best hv) (Heap.get?_update_self _ hO2 rfl) fun u h2 tk2 hu kp2 => q u h2 tk2 hu fun b o n1 n2 e => kp2 b o n1 n2 ((Heap.get?_update_other _ _ (Ne.symm n2)).trans (kp b o n1 e))⟩
    | @best j u hp =>
      show wpAny _ _ (tryCatch (holding [v, v] (richCompare .Gt v u >>= _)) _ >>= _) _ _ _
      refine wpAny_bind (wpAny_tryCatch (wpAny_holding (wpAny_bind (hcmp (j + 1) (argBest bt j) v u _ _ _ hv hp ?_))))
      refine wpAny_bind (wpAny_holding (wpAny_truthy_bool (wpAny_bind (wpAny_letGo (wpAny_pure ?_)))))
      cases hb : bt (j + 1) (argBest bt j) with
      | true =>
        have hv2 : P (argBest bt (j + 1)) v := by
          show P (if bt (j + 1) (argBest bt j) = true then j + 1 else argBest bt j) v
          rw [if_pos hb]
          exact hv
        simp only [if_true]
        refine wpAny_bind ?_
        refine wpAny_updateSeq hO2 rfl (wpAny_bind (wpAny_letGo ?_))
        rw [nm]
        exact wpAny_pure ⟨plainId_quiet F.plain_max_loop _, ih (j + 2) _ _ _ (by omega) (by omega) (up _ _ rfl) (.best hv2) (Heap.get?_update_self _ hO2 rfl) fun u h2 tk2 hu kp2 => q u h2 tk2 hu fun b o n1 n2 e => kp2 b o n1 n2 ((Heap.get?_update_other _ _ (Ne.symm n2)).trans (kp b o n1 e))⟩
      | false =>
        have hp2 : P (argBest bt (j + 1)) u := by
          show P (if bt (j + 1) (argBest bt j) = true then j + 1 else argBest bt j) u
          rw [hb, if_neg (by decide)]
          exact hp
        simp only [Bool.false_eq_true, if_false]
        refine wpAny_bind (wpAny_letGo ?_)
        rw [nm]
        exact wpAny_pure ⟨plainId_quiet F.plain_max_loop _, ih (j + 2) _ _ _ (by omega) (by omega) st' (.best hp2) hO2 fun u h2 tk2 hu kp2 => q u h2 tk2 hu fun b o n1 n2 e => kp2 b o n1 n2 (kp b o n1 e)⟩
end
section
variable {prog : Program} {w : World} {A : Around} {E : Value → Shared → Prop} {s : Shared}
/-- a built-in function with keywords, which may go on in another one -/
theorem call_kwT {id : String} {b : PySem.Builtin} {us : List Value} {kw : List (Str × Value)} {Q : Value → Shared → Prop} (hk : builtinKind id = none) (hp : plainId id = true) (hb : entryFor table id = some b) (ha : argsOk id ⟨us, kw⟩)
    (h : wpAny (model prog w) A.in1 (b ⟨us, kw⟩) (fun z t => match z with
      | .done f => (match (Except.ok f : PySem.Result) with | .ok (.ret v) => Q v t | .ok _ => False | .error e => E e t)
      | .again c => c.quiet = true ∧ codeAny (model prog w) A c (fun r t => match r with | .ok (.ret v) => Q v t | .ok _ => False | .error e => E e t) t) E s) : wpAny (model prog w) A (call (.builtin id) us kw) Q E s := by
  refine wpAny_call (codeAny_call_builtin hp hb ?_)
  unfold checkBuiltinCall
  rw [hk]
  unfold argsOk at ha
  revert ha
  cases Manifest.signature? id with
  | none => exact fun _ => wpAny_pure h
  | some g => exact fun ha => by simp only [show Bind.checkArgs id g ⟨us, kw⟩ = pure () from ha]; exact wpAny_pure h
theorem args_maxD (a d : Value) : argsOk "max" ⟨[a], [(Str.ofString "default", d)]⟩ := by unfold argsOk; kernel_rfl
/-- max(xs, default=d), xs a list of ints -/
theorem max_dflt {l : Addr} {its : List Value} {ns : List Int} {d : Value} {Q : Value → Shared → Prop} (hh : A.handled = none) (hl : s.heap.IsList l its.toArray) (hi : IntsAre its ns)
    (q : ∀ h' tk v, (∀ b o, s.heap.get? b = some o → h'.get? b = some o) → ((ns = [] ∧ v = d) ∨ ∃ M t, v = .int M t ∧ M ∈ ns ∧ ∀ a ∈ ns, a ≤ M) → Q v { s with heap := h', toks := tk }) : wpAny (model prog w) A (call (.builtin "max") [.ref l] [(Str.ofString "default", d)]) Q E s := by
  obtain ⟨xs, e⟩ := hi.allInts.items
  have hn : xs.toList.map (·.1) = ns := by
    have h1 : its = (intItems xs).toList := by rw [← e]
    have h2 := hi.numsOf
    rw [h1, nums_intItems] at h2
    exact h2
  rw [e] at hl
  have nm : (toString "max" ++ toString ".loop" : String) = "max.loop" := by decide
  refine call_kwT F.kind_max F.plain_max F.entry_max (args_maxD _ _) ?_
  show wpAny _ _ (Builtin.Builtins.bindParams "max" ["key", "default"] 0 ⟨[], [(Str.ofString "default", d)]⟩ >>= _) _ _ s
  refine wpAny_bind (wpAny_of_eq (show Builtin.Builtins.bindParams "max" ["key", "default"] 0 ⟨[], [(Str.ofString "default", d)]⟩ = pure [none, some d] from rfl) ?_)
  refine wpAny_bind (wpAny_pure (wpAny_bind (iter_intList hl fun s2 e2 st fp ne => ?_)))
  subst e2
  refine wpAny_bind (wpAny_newObj_type ?_)
  rw [nm]
  have W := Walks.list (A := A.in1) (prog := prog) (w := w) hh s.heap.objs.size l ne (intItems xs)
  have sz : (intItems xs).size = xs.size := by simp [intItems]
  refine wpAny_pure ⟨plainId_quiet F.plain_max_loop _, maxD_loop d W _ (CmpOf.ints_gt (numAt xs) (fun _ _ => intItems_at)) _ (fun h => Nat.lt_irrefl _ (fp _ h)) _ 0 _ #[] _ rfl (Nat.zero_le _) (W.frame _ _ _ st fun b _ o g => Heap.get?_push_of_some _ g) .start (Heap.get?_push_size _ rfl) fun v h' tk hv kp => ?_⟩
  refine q h' tk v (fun b o g => ?_) ?_
  · have lt := Heap.lt_size g
    refine kp b o (fun h => ?_) ?_ (Heap.get?_push_of_some _ (Heap.get?_push_of_some _ g))
    · rcases List.mem_cons.mp h with h | h
      · exact Nat.lt_irrefl _ (h ▸ lt)
      · cases h
    · show b ≠ (s.heap.push _).objs.size
      rw [Heap.size_push]
      exact Nat.ne_of_lt (Nat.lt_succ_of_lt lt)
  · rcases hv with ⟨z, rfl⟩ | ⟨z, hv⟩
    · refine .inl ⟨?_, rfl⟩
      rw [← hn, List.map_eq_nil_iff, ← List.length_eq_zero_iff, Array.length_toList]
      omega
    · obtain ⟨t, rfl⟩ := intItems_at hv
      obtain ⟨h1, h2⟩ := argBest_gt (numAt xs) (xs.size - 1)
      rw [sz] at *
      have num : ∀ i, i < xs.size → numAt xs i ∈ ns := fun i hi => by
        rw [← hn]
        unfold numAt
        rw [Array.getElem?_eq_getElem hi]
        exact List.mem_map.mpr ⟨_, Array.getElem_mem_toList hi, rfl⟩
      refine .inr ⟨_, t, rfl, num _ (by omega), fun a m => ?_⟩
      rw [← hn] at m
      obtain ⟨x, mx, rfl⟩ := List.mem_map.mp m
      obtain ⟨i, li, rfl⟩ := List.getElem_of_mem mx
      rw [Array.length_toList] at li
      have := h2 i (by omega)
      unfold numAt at this
      rw [Array.getElem?_eq_getElem li] at this
      exact this
end
section
variable {X : Cx}
def rMaxD (K : PySem.W.Frag) : List V → List V → Hp → VK → Prop := fun vs zs H Q => ∃ (a : Addr) (ns : List Int) (d : Int), vs = [V.ref a] ∧ zs = [.int d] ∧ SqL K H a (ns.map V.int) ∧ (ns = [] → Q (.int d) H) ∧ ∀ M, M ∈ ns → (∀ y ∈ ns, y ≤ M) → Q (.int M) H
theorem cr_maxD (hc : X.calm = true) : CallRK X (.builtin "max") [Str.ofString "default"] (rMaxD X.K) := by
  intro pins s σ H vs zs us ws Q I r1 r2 h
  obtain ⟨a, ns, d, rfl, rfl, hs, q1, q2⟩ := h
  obtain ⟨its, rv, hl, _⟩ := I.list hs
  rw [Vals.ref1 r1]
  obtain ⟨u, rfl, ru⟩ := r2.one
  obtain ⟨t0, rfl⟩ := ru
  refine max_dflt (I.ok.hd hc) hl.isList rv.ints fun h' tk v kp hv => ?_
  rcases hv with ⟨z, rfl⟩ | ⟨M, t, rfl, m1, m2⟩
  · exact ⟨.int d, H, I.kept kp, ⟨_, rfl⟩, q1 z⟩
  · exact ⟨.int M, H, I.kept kp, ⟨_, rfl⟩, q2 M m1 m2⟩
end
end Vb
namespace Pu
open PySem PySem.Spec PyProof.Rows L2
section
variable {so : Option Addr} {c : Ct so} {K K' : PySem.W.Frag} {env : Ev} {k : Rs → Ev → Prop} {t tk : TA}
/-- the greatest of these, d where there are none -/
def maxD (d : Int) : List Int → Int
  | [] => d
  | x :: xs => xs.foldl max x
theorem foldl_max : ∀ (xs : List Int) (x : Int), (xs.foldl max x = x ∨ xs.foldl max x ∈ xs) ∧ x ≤ xs.foldl max x ∧ ∀ y ∈ xs, y ≤ xs.foldl max x
  | [], x => ⟨.inl rfl, Int.le_refl _, fun y m => by cases m⟩
  | z :: xs, x => by
    obtain ⟨h1, h2, h3⟩ := foldl_max xs (max x z)
    show (xs.foldl max (max x z) = x ∨ xs.foldl max (max x z) ∈ z :: xs) ∧ x ≤ xs.foldl max (max x z) ∧ ∀ y ∈ z :: xs, y ≤ xs.foldl max (max x z)
    refine ⟨?_, by omega, fun y m => ?_⟩
    · rcases h1 with h | h
      · rw [h]
        rcases Int.le_total x z with c | c
        · rw [Int.max_eq_right c]; exact .inr (List.mem_cons_self ..)
        · rw [Int.max_eq_left c]; exact .inl rfl
      · exact .inr (List.mem_cons_of_mem _ h)
    · rcases List.mem_cons.mp m with rfl | m
      · omega
      · exact h3 y m
theorem maxD_mem {d : Int} : ∀ {ns : List Int}, ns ≠ [] → maxD d ns ∈ ns ∧ ∀ y ∈ ns, y ≤ maxD d ns
  | [], h => absurd rfl h
  | x :: xs, _ => by
    obtain ⟨h1, h2, h3⟩ := foldl_max xs x
    refine ⟨?_, fun y m => ?_⟩
    · rcases h1 with h | h
      · show xs.foldl max x ∈ _; rw [h]; exact List.mem_cons_self ..
      · exact List.mem_cons_of_mem _ h
    · rcases List.mem_cons.mp m with rfl | m
      · exact h2
      · exact h3 y m
/-- max(xs, default=d) -/
theorem e_maxD (h : EA c t env fun rs env1 => ∃ r ns, rs = [r] ∧ IsL env1 r (ns.map I) ∧ EA c tk env1 fun ss env2 => ∃ d, ss = [.v (I d)] ∧ IsL env2 r (ns.map I) ∧ k (.v (I (maxD d ns))) env2) : E c (tCKw (Vb.rMaxD K) t tk) env k := fun S σ H Q R z => by
  refine h S σ H _ R fun S1 xs H1 rs env1 g1 e1 R1 q1 => ?_
  obtain ⟨r, ns, rfl, hl, g2⟩ := g1
  obtain _ | ⟨x, _ | ⟨y, xs⟩⟩ := xs
  · exact q1.elim
  · refine g2 S1 σ H1 _ R1 fun S2 zs H2 ss env2 g3 e2 R2 q2 => ?_
    obtain ⟨d, rfl, hl2, g4⟩ := g3
    obtain _ | ⟨u, _ | ⟨v, zs⟩⟩ := zs
    · exact q2.elim
    · cases (show u = .int d from q2.1.2)
      obtain ⟨a, ys, rfl, s, g⟩ := hl2.go R2 (q1.1.2.up q1.1.1 e2)
      rw [All.ints g] at s
      have fin : Q (.int (maxD d ns)) H2 := z S2 _ H2 _ env2 g4 (e1.trans e2) R2 rfl
      refine ⟨a, ns, d, rfl, rfl, Vb.sq_of s, fun h => ?_, fun M m1 m2 => ?_⟩
      · subst h
        exact fin
      · obtain ⟨p1, p2⟩ := maxD_mem (d := d) (List.ne_nil_of_mem m1)
        have := p2 M m1
        have := m2 _ p1
        rw [show M = maxD d ns by omega]
        exact fin
    · exact q2.2.elim
  · exact q1.2.elim
end
end Pu
theorem Pu.crKK {X : L2.Cx} {K : PySem.W.Frag} {f : PySem.Value} {ks : List PySem.Str} {R : PySem.W.Frag → List L2.V → List L2.V → L2.Hp → L2.VK → Prop} (h : L2.CallRK X f ks (R X.K)) (e : X.K = K) : L2.CallRK X f ks (R K) := by
  subst e
  exact h
theorem Pu.q_maxD {env : Pu.Ev} {r : Pu.Rs} {ns : List Int} {Q : Pu.Rs → List Int → Prop} (h : Pu.IsL env r (ns.map Pu.I)) (q : Q r ns) : ∃ r' ns', [r] = [r'] ∧ Pu.IsL env r' (ns'.map Pu.I) ∧ Q r' ns' := ⟨r, ns, rfl, h, q⟩
theorem Pu.q_maxD2 {env : Pu.Ev} {r : Pu.Rs} {ns : List Int} {d : Int} {Q : Int → Prop} (h : Pu.IsL env r (ns.map Pu.I)) (q : Q d) : ∃ d', [Pu.Rs.v (Pu.I d)] = [.v (Pu.I d')] ∧ Pu.IsL env r (ns.map Pu.I) ∧ Q d' := ⟨d, rfl, h, q⟩
namespace Pu
open PySem PySem.Spec PyProof.Rows L2
section
variable {so : Option Addr} {c : Ct so} {K K' : PySem.W.Frag} {env : Ev}
theorem g_twoK {i j : Nat} {A B : Asn} {kg : Ev → Prop} (e0 : K' = K) (h : kg ((env.set i (.v A)).set j (.v B))) : G c (gTup K' 2 (gCons (gName i) (gCons (gName j) gNil))) (.v (Tu K [A, B])) env kg := by
  subst e0
  exact g_two h
theorem g_anyK {i j : Nat} {C A B : Asn} {kg : Ev → Prop} (e0 : K' = K) (hC : SqOf K C [A, B]) (h : kg ((env.set i (.v A)).set j (.v B))) : G c (Vb.gAny K' 2 (gCons (gName i) (gCons (gName j) gNil))) (.v C) env kg := fun S σ H x Q R q z => by
  subst e0
  obtain ⟨a, xs, rfl, s, g⟩ := hC S x q
  obtain _ | ⟨x, _ | ⟨y, _ | ⟨w, xs⟩⟩⟩ := xs
  · exact g.elim
  · exact g.2.elim
  · exact Vb.r_gA2 (s.imp (fun s => Vb.sq_of (R.sh _ _ s)) (fun s => Vb.sqd R.sh s)) (z S _ H _ h (Same.refl S) ((R.setV i g.1).setV j g.2.1))
  · exact g.2.2.elim
theorem gv_twoK {vs : List Nat} {i j : Nat} {A B : Asn} {kg : Ev → Prop} (e0 : K' = K) (m1 : i ∈ vs) (m2 : j ∈ vs) (h : kg ((env.set i (.v A)).set j (.v B))) : GV c vs (gTup K' 2 (gCons (gName i) (gCons (gName j) gNil))) (Tu K [A, B]) env kg := by
  subst e0
  exact gv_two m1 m2 h
theorem gv_anyK {vs : List Nat} {i j : Nat} {C A B : Asn} {kg : Ev → Prop} (e0 : K' = K) (m1 : i ∈ vs) (m2 : j ∈ vs) (hC : SqOf K C [A, B]) (h : kg ((env.set i (.v A)).set j (.v B))) : GV c vs (Vb.gAny K' 2 (gCons (gName i) (gCons (gName j) gNil))) C env kg := fun S σ H x Q R q z => by
  subst e0
  obtain ⟨a, xs, rfl, s, g⟩ := hC S x q
  obtain _ | ⟨x, _ | ⟨y, _ | ⟨w, xs⟩⟩⟩ := xs
  · exact g.elim
  · exact g.2.elim
  · exact Vb.r_gA2 (s.imp (fun s => Vb.sq_of (R.sh _ _ s)) (fun s => Vb.sqd R.sh s)) (z _ _ h ((R.setV i g.1).setV j g.2.1) (by rw [wipe_set m2, wipe_set m1]) fun k n => by rw [List.getElem?_set_ne (fun e => n (by rw [← e]; exact m2)), List.getElem?_set_ne (fun e => n (by rw [← e]; exact m1))])
  · exact g.2.2.elim
end
end Pu
namespace Pu
/-- a slot that holds nothing of its own -/
inductive Fre : Sl → Prop
  | un : Fre .un
  | v {A : Asn} : Fre (.v A)
theorem no_fre {env : Ev} {j : Nat} {s : Sl} (h : env[j]? = some s) (f : Fre s) : NoOwn env j := fun C z => by
  rw [h] at z
  cases z
  cases f
end Pu
namespace Pu
open PySem PySem.Spec PyProof.Rows L2
/-! ### max(xs) of a list that is not empty -/
section
variable {so : Option Addr} {c : Ct so} {K K' : PySem.W.Frag} {env : Ev} {k : Rs → Ev → Prop}
theorem r_maxL {r : Rs} {ns : List Int} {d : Int} {ms : List Int} (e0 : K' = K) (h : IsL env r (ns.map I)) (e : ns = d :: ms) (q : k (.v (I (if ms = [] then d else maxD d (d :: ms)))) env) : RL c (L2.rMax K') [r] env k := fun S σ H xs Q R qs z => by
  subst e0
  obtain _ | ⟨x', _ | ⟨y', xs⟩⟩ := xs
  · exact qs.elim
  · obtain ⟨a, ys, rfl, s, g⟩ := h.go R qs.1.2
    rw [All.ints g] at s
    refine ⟨a, ns, rfl, Vb.sq_of s, by rw [e]; exact Nat.succ_pos _, fun m hm hy => ?_⟩
    have : m = if ms = [] then d else maxD d (d :: ms) := by
      subst e
      obtain ⟨p1, p2⟩ := maxD_mem (d := d) (ns := d :: ms) (List.cons_ne_nil _ _)
      split
      · rename_i c
        subst c
        exact List.mem_singleton.mp hm
      · have a1 := p2 m hm
        have a2 := hy _ p1
        omega
    rw [this]
    exact z S _ H _ env q (Same.refl S) R rfl
  · exact qs.2.elim
end
theorem maxD_cons {d : Int} {ns : List Int} (h : ∀ x ∈ ns, d ≤ x) : (if ns = [] then d else maxD d (d :: ns)) = maxD d ns := by
  split
  · rename_i c
    subst c
    rfl
  · rename_i c
    obtain ⟨p1, p2⟩ := maxD_mem (d := d) c
    obtain ⟨q1, q2⟩ := maxD_mem (d := d) (ns := d :: ns) (List.cons_ne_nil _ _)
    have a1 := q2 _ (List.mem_cons_of_mem _ p1)
    rcases List.mem_cons.mp q1 with e | m
    · have := h _ p1
      omega
    · have a2 := p2 _ m
      omega
end Pu
namespace Pu
open PySem PySem.Spec PyProof.Rows L2
/-! ### an own == -/
section
variable {so : Option Addr} {c : Ct so} {K K' : PySem.W.Frag} {env : Ev} {k : Rs → Ev → Prop}
theorem r_eqOwn {C : Addr} {φ : PSp} {E : XK} {A B : Asn} [F1 : Ins A C] [F2 : Ins B C] (e0 : K' = K) (ki : Vb.Ki K C) (cl : Cls K C) (h : Cl φ [.v A, .v B] env (fun r e => (∃ b, r = .v (Bo b)) ∧ k r e) fun _ _ _ => False) : R2 c (Vb.rEqOwn K' C (toSp φ) E) (.v A) (.v B) env k := fun S σ H x y Q R _ _ qx qy z => by
  subst e0
  obtain ⟨a, dx, gs, rfl, s1⟩ := F1.g S x qx
  obtain ⟨b, dy, fs, rfl, s2⟩ := F2.g S y qy
  refine ⟨a, dx, gs, .ref C, rfl, R.sh _ _ s1, ki.tyx cl (R.sh _ _ s2), Vb.nf_me, ?_⟩
  exact Core.none R.stf (h.go (Ex := fun _ => E) ExOk.none R ⟨⟨trivial, qx⟩, ⟨trivial, qy⟩, trivial⟩ fun S' x H' r env' g e R' q => by
    obtain ⟨⟨b, rfl⟩, g⟩ := g
    exact ⟨b, q, z S' _ H' _ env' g e R' rfl⟩)
end
end Pu
namespace Vb
open PySem PySem.Spec PyProof.Rows L2
/-! ### a comprehension whose item may raise -/
section
/-- an object is let go -/
def gone (h : Heap) (C : Addr) : Heap := h.update C fun o => { o with data := .freed }
theorem gone_self {h : Heap} {C : Addr} : (gone h C).get? C = none := by
  unfold gone Heap.update Heap.get?
  simp only [Array.getElem?_modify, if_true]
  cases h.objs[C]? <;> rfl
theorem gone_ne {h : Heap} {C b : Addr} (n : b ≠ C) : (gone h C).get? b = h.get? b := Heap.get?_update_other _ _ (Ne.symm n)
theorem gone_some {h : Heap} {C b : Addr} {o : Obj} (e : (gone h C).get? b = some o) : b ≠ C ∧ h.get? b = some o := by
  by_cases n : b = C
  · rw [n, gone_self] at e; cases e
  · exact ⟨n, by rw [gone_ne n] at e; exact e⟩
theorem funFrames_gone {h h' B B' : Heap} {C : Addr} (sb : ∀ b, b ≠ C → h'.get? b = h.get? b) (bb : ∀ b, b ≠ C → B'.get? b = B.get? b) : ∀ {l : List Env}, C ∉ frs l → h.FunFrames B l → h'.FunFrames B' l := by
  intro l
  induction l with
  | nil => exact fun _ f => f
  | cons e l ih =>
    intro nc f
    simp only [Heap.FunFrames] at f ⊢
    obtain ⟨h1, ⟨L, o, e1, e2, e3, e4⟩, h2⟩ := f
    have nL : L ≠ C := fun z => nc (List.mem_filterMap.mpr ⟨e, List.mem_cons_self, by rw [e1, z]⟩)
    refine ⟨h1, ⟨L, o, e1, by rw [bb _ nL]; exact e2, by rw [sb _ nL]; exact e3, e4⟩, ih (fun z => nc ?_) h2⟩
    obtain ⟨e', m, q⟩ := List.mem_filterMap.mp z
    exact List.mem_filterMap.mpr ⟨e', List.mem_cons_of_mem _ m, q⟩
theorem inv_wish {X : Cx} {pins : List (Addr × Obj)} {σ : L2.St} {H : Hp} {s : Shared} {E : Value → Shared → Prop} (I : Inv X pins σ H s) : Inv (X.wish E) pins σ H s := ⟨⟨I.ok.mod, I.ok.kind, I.ok.glob, I.ok.blt, I.ok.above, I.ok.inj, I.ok.has, I.ok.cab, I.ok.hd, I.ok.frames, I.ok.stk, I.ok.exf, I.ok.bs, I.ok.bsz, I.ok.noex, I.ok.exfs, I.ok.funs, I.ok.frf⟩, I.os, I.bare, I.base, I.loc, I.cell, I.free, I.freeC, I.pin, I.hok, I.len⟩
theorem inv_unwish {X : Cx} {pins : List (Addr × Obj)} {σ : L2.St} {H : Hp} {s : Shared} {E : Value → Shared → Prop} (I : Inv (X.wish E) pins σ H s) : Inv X pins σ H s := ⟨⟨I.ok.mod, I.ok.kind, I.ok.glob, I.ok.blt, I.ok.above, I.ok.inj, I.ok.has, I.ok.cab, I.ok.hd, I.ok.frames, I.ok.stk, I.ok.exf, I.ok.bs, I.ok.bsz, I.ok.noex, I.ok.exfs, I.ok.funs, I.ok.frf⟩, I.os, I.bare, I.base, I.loc, I.cell, I.free, I.freeC, I.pin, I.hok, I.len⟩
/-- what a call within an item of a comprehension hands on -/
def xeB (Y : Cx) (W : WX) (e : Value) (s' : Shared) : Prop := ∃ pins σ H s E, Inv Y pins σ H s ∧ L2N.CX Y.prog Y.w Y.stack H s E e s' ∧ ∀ cls d H', E cls d H' → W cls d σ H'
abbrev blkX (X : Cx) (W : WX) (s : Shared) (H : Hp) (scope : Scope) (cenv : Env) (fp : List Addr) : Cx := (X.blk s H scope cenv fp).wish (xeB (X.blk s H scope cenv fp) W)
theorem passB {Y : Cx} {W : WX} {σ : L2.St} : PassesAt (L2N.CX Y.prog Y.w) (Y.wish (xeB Y W)) σ (fun cls d H => W cls d σ H) := fun pins H s _ _ I h => ⟨pins, σ, H, s, _, inv_unwish I, h, fun _ _ _ w => w⟩
/-- the error of an item passes on, behind the comprehension's own names -/
theorem item_error {X : Cx} {pins : List (Addr × Obj)} {σ σb : L2.St} {H : Hp} {s s' : Shared} {W : WX} {E : XK} {e : Value} {C : Addr} {ce : Env} {m0 : Str → Option Value} {Q : Value → Shared → Prop}
    (st : X.stack = X.env :: X.outer) (fr : X.env.frame = some X.env.locals) (tk : L2N.Takes X W) (hW : ∀ cls d σ σ' H, W cls d σ H → W cls d σ' H)
    (IX : Inv X pins σ H s) (hns : s.heap.Ns C m0) (hC : FpOk X pins H C) (h : L2N.CX X.prog X.w X.stack H s E e s') (wE : ∀ cls d H', E cls d H' → W cls d σb H') (cf : ce.frame = X.env.frame) {E2 : Value → Shared → Prop} :
    wpAny (model X.prog X.w) X.A (noteFrame e ce) (fun _ s2 => ∃ m, s2.heap.Ns C m ∧ ∀ h', Heap.SameBut C s2.heap h' → wpAny (model X.prog X.w) X.A (PySem.passOn "comprehension.variables-let-go" e ce) Q X.xe { s2 with heap := h' }) E2 s' := by
  obtain ⟨a0, B0, H0', cls0, d0, rfl, fl0, hok0, ub0, na0, os0, ag0, w0⟩ := h
  have afr : X.A.frames = some (X.env :: X.outer) := by rw [IX.ok.frames, st]
  obtain ⟨c1, c2, c3, c4, c5, c6⟩ := hC
  have cfr : C ∉ frs X.stack := fun z => by
    rw [st] at z
    obtain ⟨e, me, q⟩ := List.mem_filterMap.mp z
    rcases List.mem_cons.mp me with rfl | me
    · rw [fr] at q; exact c2 (Option.some.inj q).symm
    · exact c3 (List.mem_filterMap.mpr ⟨e, me, q⟩)
  obtain ⟨oC, es, ep, hC0, hdC, hsk, hnf⟩ := hns
  have hC1 : s'.heap.get? C = some oC := fl0.1 _ _ (ub0.keep _ _ hC0 c1 cfr)
  have nC0 : H0' C = none := ub0.free _ _ hC0 c1
  obtain ⟨a, B, sI, pins1, σ1, H1, cls, d, ea, J, nb, up, sky, na, os, ag, w, nC⟩ := L2N.XE.of_call (W := fun cls d σ H => W cls d σ H ∧ H C = none) (E := fun cls d H => E cls d H ∧ H C = none) IX (fun cls d H' z => ⟨hW _ _ _ _ _ (wE _ _ _ z.1), z.2⟩) ⟨a0, B0, H0', cls0, d0, rfl, fl0, hok0, ub0, na0, os0, ag0, w0, nC0⟩
  cases ea
  obtain ⟨_, _, _, oe, vs, T, oT, ts, he, hz, hd, h1, hr0, hr1, hr2, hr3, hr4⟩ := fl0
  have fl : HandSPX.FlyingZ B X.stack a0 (L2N.Zn cls d) s'.heap := by
    rcases sky with ⟨_, _, _, oe', vs', he', _, hd', h1'⟩ | z | ⟨_, _, _, oe', vs', T', oT', ts', he', _, hd', h1', _, _, hr2', hr3', hr4'⟩
    · rw [he] at he'; cases he'
      rw [hd] at hd'; cases hd'
      rw [h1] at h1'; cases h1'
    · exact z
    · rw [he] at he'; cases he'
      rw [hd] at hd'; cases hd'
      rw [h1] at h1'; cases h1'
      rw [hr2] at hr2'; cases hr2'
      rw [hr3] at hr3'; cases hr3'
      rw [hr4] at hr4'; cases hr4'
  have nf : noteFrame (.ref a0) ce = noteFrame (.ref a0) X.env := by
    unfold noteFrame PySem.frameOf
    rw [cf]
  rw [nf]
  rw [st] at fl
  refine PXN.looks_onZ L2N.Zn.steady afr fr fl fun h1' held up1 => ?_
  have up2 := up.trans up1
  obtain ⟨sC, hC2⟩ := up1 C oC hC1 (fun vs z => by rw [hdC] at z; cases z)
  refine ⟨m0, ⟨_, es, ep, hC2, hdC, hsk, hnf⟩, fun h2 sb => ?_⟩
  obtain ⟨k1, k2, k3, oe, vs, T, oT, ts, he, hz, hd, h1, g1, g2, g3, g4, g5⟩ := held
  have naC : a0 ≠ C := fun z => by
    rw [z, hC2] at he
    cases he
    rw [hdC] at hd
    cases hd
  have nTC : T ≠ C := fun z => by
    rw [z, hC2] at g3
    cases g3
    rw [hdC] at g4
    cases g4
  have he2 : h2.get? a0 = some oe := by rw [sb.2 _ naC]; exact he
  have hT2 : h2.get? T = some oT := by rw [sb.2 _ nTC]; exact g3
  unfold PySem.passOn
  refine wpAny_bind (wpAny_field he2 hd h1 ?_)
  rw [if_neg (show ¬ ((Value.ref T == Value.none) = true) by simp)]
  have last : wpAny (model X.prog X.w) X.A (setFlight (.ref a0) ce.frame) (fun _ z4 => wpAny (model X.prog X.w) X.A (throw (.ref a0) : Sem Value) Q X.xe z4) X.xe { s' with heap := h2 } := by
    rw [cf, fr]
    unfold setFlight
    refine wpAny_bind (wpAny_field he2 hd h1 ?_)
    rw [if_pos (show ((Value.ref T != Value.none) = true) by simp)]
    have l3 : 3 < ts.size := by
      rcases Nat.lt_or_ge 3 ts.size with z | z
      · exact z
      · rw [Array.getElem?_eq_none z] at g5; cases g5
    refine wpAny_setField hT2 g4 l3 ?_
    have hT3 : (h2.update T (Obj.mapFields fun x => x.setIfInBounds 3 (rawInt ↑X.env.locals))).get? T = some (Obj.mapFields (fun x => x.setIfInBounds 3 (rawInt ↑X.env.locals)) oT) := Heap.get?_update_self _ hT2 (by obtain ⟨x1, x2, x3, x4⟩ := oT; cases g4; rfl)
    have hO3 : ∀ b, b ≠ T → (h2.update T (Obj.mapFields fun x => x.setIfInBounds 3 (rawInt ↑X.env.locals))).get? b = h2.get? b := fun b n => Heap.get?_update_other _ _ (Ne.symm n)
    refine wpAny_throw (tk _ _ ⟨a0, gone B C, { sI with heap := gone sI.heap C }, [], σ1, H1, cls, d, rfl, ?_, ?_, ?_, ?_, na, os, ag, w⟩)
    · refine ((show Inv X ([] ++ pins1) σ1 H1 sI from J).unpinned (pins := [])).turned (t' := sI.toks) (it := C) (fun b o n e => ?_) nC c2 c4 c5 fun p hp => c6 p ?_
      · rw [gone_ne n]; exact e
      · rw [List.append_nil] at hp
        exact List.mem_append_left _ hp
    · intro b o e n
      obtain ⟨n2, e'⟩ := gone_some e
      rw [gone_ne n2]
      exact nb b o e' n
    · intro b o e n
      obtain ⟨n2, e'⟩ := gone_some e
      obtain ⟨sl, q⟩ := up2 b o e' n
      have q2 : h2.get? b = some ⟨o.cls, o.dict, o.data, sl⟩ := by rw [sb.2 _ n2]; exact q
      refine ⟨sl, ?_⟩
      show (h2.update T _).get? b = _
      have nT : b ≠ T := fun z => by
        subst z
        rw [hT2] at q2
        cases q2
        exact n ts g4
      exact (hO3 b nT).trans q2
    · rw [st]
      refine .inr (.inr ⟨fun b o e => ?_, by rw [gone_ne naC]; exact k2, ?_, oe, vs, T, _, ts.setIfInBounds 3 (rawInt ↑X.env.locals), ?_, hz, hd, h1, by rw [gone_ne nTC]; exact g1, g2, hT3, ?_, ?_⟩)
      · obtain ⟨n2, e'⟩ := gone_some e
        show (h2.update T _).get? b = _
        refine (hO3 b fun z => ?_).trans ((sb.2 _ n2).trans (k1 b o e'))
        rw [z, g1] at e'
        cases e'
      · refine Heap.FunFrames.of_keeps (h := h2) (fun b o e n => ⟨o, ?_, rfl⟩) (funFrames_gone (h := h1') (B := B) (C := C) (fun b n => sb.2 b n) (fun b n => gone_ne n) (by rw [← st]; exact cfr) k3)
        show (h2.update T _).get? b = _
        refine (hO3 b fun z => ?_).trans e
        rw [z, hT2] at e
        cases e
        exact n ts g4
      · exact (hO3 a0 (Ne.symm g2)).trans he2
      · obtain ⟨x1, x2, x3, x4⟩ := oT
        cases g4
        rfl
      · rw [Array.getElem?_setIfInBounds_self_of_lt l3]
  first
    | exact wpAny_bind (wpAny_pure (wpAny_bind last))
    | exact wpAny_bind last
section
variable {X : Cx} {pins : List (Addr × Obj)}
theorem clo_none {cells : List (Str × Addr)} : ∀ {ns : List (Str × NameKind)}, (∀ x ∈ ns, x.2 ≠ .free) → cloFrom cells ns [] = []
  | [], _ => rfl
  | (n, k) :: ns, h => by
    have h1 := h (n, k) (List.mem_cons_self ..)
    have ih := clo_none (cells := cells) (ns := ns) fun x m => h x (List.mem_cons_of_mem _ m)
    cases k with
    | free => exact absurd rfl h1
    | _ => exact ih
theorem relabel_none {scope : Scope} {env : Env} (h : ∀ x ∈ scope.names, x.2 ≠ .free) : relabel scope env = scope := by
  unfold relabel
  have e : scope.names.map (fun x => match x with | (n, k) => if (k == NameKind.free && env.scope.kind == ScopeKind.function && env.kindOf n == some NameKind.cell) = true then (n, NameKind.cell) else (n, k)) = scope.names := by
    refine (List.map_congr_left (g := id) fun x m => ?_).trans (List.map_id _)
    obtain ⟨n, k⟩ := x
    have := h _ m
    cases k with
    | free => exact absurd rfl this
    | _ => rfl
  obtain ⟨a, b, c, d, e'⟩ := scope
  exact congrArg (fun z => (⟨a, z, c, d, e'⟩ : Scope)) e
def RRx (M : Model) (A : Around) (E : Value → Shared → Prop) (Q : Value → Shared → Prop) (D : Value) (C : Addr) (ce : Env) : PySem.Result → Shared → Prop := fun r s' => ∃ m, s'.heap.Ns C m ∧ ∀ h', Heap.SameBut C s'.heap h' → match r with
  | .ok _ => Q D { s' with heap := h' }
  | .error x => wpAny M A (PySem.passOn "comprehension.variables-let-go" x ce) Q E { s' with heap := h' }
theorem compStart_env {M : Model} {A : Around} {e : Expr} {it acc : Value} {ce ce' : Env} {R : PySem.Result → Shared → Prop} {s : Shared} (h : ce = ce') {R' : Env → PySem.Result → Shared → Prop} (hr : R = R' ce') (q : codeAny M A (.compStart e 0 it acc ce) (R' ce) s) : codeAny M A (.compStart e 0 it acc ce') R s := by
  subst h
  rw [hr]
  exact q
theorem lc_coreX {s : Shared} {σ : L2.St} {H : Hp} {Q : VK} {elt tg iter : Expr} {ifs : List Expr} {scope : Scope} {own : List (Str × Nat)} {pos pos' : Pos} {wi : TI} {g : TG} {tt : TT} {te : TE} 
    (hc : X.calm = true) (st : X.stack = X.env :: X.outer) (fr : X.env.frame = some X.env.locals) {W : WX} (tk : L2N.Takes X W) (hW : ∀ cls d σ σ' H, W cls d σ H → W cls d σ' H) (nfr : ∀ x ∈ scope.names, x.2 ≠ .free) (hN : X.N.Nodup) (I : Inv X pins σ H s) (hi : PI X tg iter wi) (ok : BlkOk X.N X.env.scope scope own)
    (hg : ∀ (s : Shared) (H : Hp) (C : Addr) (cl : List (Str × Addr)) (fp : List Addr), PG (X.blk s H scope (compEnvC scope cl C X.env) fp) tg g) (ht : ∀ (s : Shared) (H : Hp) (C : Addr) (cl : List (Str × Addr)) (fp : List Addr), PTs (X.blk s H scope (compEnvC scope cl C X.env) fp) ifs tt)
    (he : ∀ (s : Shared) (H : Hp) (C : Addr) (cl : List (Str × Addr)) (fp : List Addr), PE (blkX X W s H scope (compEnvC scope cl C X.env) fp) elt te) (hs : ∀ x, foldedSetIterable iter X.env x = pure x)
    (h : tLc wi g tt te (own.map (·.2)) σ H Q)
    :
    wpAny (model X.prog X.w) X.A (comprehension (.ListComp elt [⟨tg, iter, ifs, 0⟩] scope pos) scope X.env pos' (newList []) false (eval iter X.env)) (EP X pins σ Q) X.xe s := by
  have hcl := clo_none (cells := X.env.cells) nfr
  have hrl := relabel_none (env := X.env) nfr
  refine wpAny_comprehension rfl hs nfr ok.kind (fun y hy e => by rw [ok.uniq y hy, e]) (thn (hi.run pins s σ H _ I h) fun xv s1 hx => thn hx fun itv s2 h2 => ?_)
  obtain ⟨it, fp, tn, J, H2, e, I2, T, st2, f2, q⟩ := h2
  subst e
  refine wpAny_newObj_type (newEnv_comp ?_) (by show 0 ≤ sizeLine; decide)
  generalize hD : s2.heap.objs.size = D
  obtain ⟨Wt, ⟨m0, w0⟩, turn⟩ := q D (I2.hok.fresh (Nat.le_of_eq hD))
  generalize hs3 : ({ s2 with heap := s2.heap.push { cls := .type "list", data := .seq ([] : List Value).toArray } } : Shared) = s3
  have h3 : s3.heap = s2.heap.push { cls := .type "list", data := .seq ([] : List Value).toArray } := by rw [← hs3]
  have I3 : Inv X pins σ (upd H2 D (.lst [])) s3 := by
    rw [← hs3]
    refine I2.laid (t' := s2.toks) (fun b o e => Heap.get?_push_of_some _ e) (Nat.le_of_eq hD) ⟨Nat.zero_le _, [], 0, .nil, ?_⟩
    rw [← hD]
    exact Heap.get?_push_size _ rfl
  have f3 : ∀ b ∈ fp, FpOk X pins (upd H2 D (.lst [])) b ∧ b < s3.heap.objs.size := fun b hb => by
    obtain ⟨o, e, _⟩ := T.obj _ _ st2 b hb
    have hlt := Heap.lt_size e
    refine ⟨⟨?_, (f2 b hb).2⟩, by rw [h3, Heap.size_push]; exact Nat.lt_succ_of_lt hlt⟩
    rw [upd_ne (by rw [← hD]; exact Nat.ne_of_lt hlt)]
    exact (f2 b hb).1
  have st3 : tn 0 s3.heap := T.keep _ _ _ st2 fun b _ o e => by rw [h3]; exact Heap.get?_push_of_some _ e
  have I4 := block_start I3 ok hN f3
  have pg := hg s3 (upd H2 D (.lst [])) s3.heap.objs.size (cellsFrom (s3.heap.objs.size + 1) scope.names (cloFrom X.env.cells scope.names [])) fp
  have pt := ht s3 (upd H2 D (.lst [])) s3.heap.objs.size (cellsFrom (s3.heap.objs.size + 1) scope.names (cloFrom X.env.cells scope.names [])) fp
  have pe := he s3 (upd H2 D (.lst [])) s3.heap.objs.size (cellsFrom (s3.heap.objs.size + 1) scope.names (cloFrom X.env.cells scope.names [])) fp
  refine compStart_env (ce := compEnvC scope (cellsFrom (s3.heap.objs.size + 1) scope.names (cloFrom X.env.cells scope.names [])) s3.heap.objs.size X.env) (by unfold compEnvC; rw [hrl, hcl]; rfl) (R' := RRx (model X.prog X.w) X.A X.xe (EP X pins σ Q) (.ref D) s3.heap.objs.size) (by unfold RRx; rfl) ?_
  have nfp : ∀ b ∈ fp, (upd H2 D (.lst [])) b = none := fun b hb => (f3 b hb).1.1
  generalize hce : compEnvC scope (cellsFrom (s3.heap.objs.size + 1) scope.names (cloFrom X.env.cells scope.names [])) s3.heap.objs.size X.env = ce at I4 pg pt pe ⊢
  have cL : ce.locals = s3.heap.objs.size := by subst hce; rfl
  have cF : ce.frame = X.env.frame := by subst hce; rfl
  generalize hH3 : upd H2 D (.lst []) = H3 at I3 I4 pg pt pe w0 nfp f3
  have kp4 : ∀ b o, s3.heap.get? b = some o → ({ s3 with heap := pushCells (s3.heap.push { cls := .type "dict", data := .dict #[] }) scope.names } : Shared).heap.get? b = some o := fun b o e => pushCells_keeps _ _ _ _ (Heap.get?_push_of_some _ e)
  generalize hs4 : ({ s3 with heap := pushCells (s3.heap.push { cls := .type "dict", data := .dict #[] }) scope.names } : Shared) = s4 at I4 kp4 ⊢
  have st4 : tn 0 s4.heap := T.keep _ _ _ st3 fun b _ o e => kp4 b o e
  have hcb : (X.blk s3 H3 scope ce fp).calm = true := hc
  have stat : ∀ {σ' : L2.St} {H' : Hp} {s' : Shared}, Inv (X.blk s3 H3 scope ce fp) [] σ' H' s' → (∀ b ∈ fp, H' b = none) → ∀ b ∈ fp, FpOk (X.blk s3 H3 scope ce fp) [] H' b := fun {σ' H' s'} I' hn b hb =>
    ⟨hn b hb, (I'.ok.exf b hb).1, I'.ok.exfs b hb, .inl hb, fun x c e => (I'.ok.exf b hb).2 x c e, fun p hp => by simp at hp⟩
  have loop : codeAny (model X.prog X.w) X.A (.compLoop (.ListComp elt [⟨tg, iter, ifs, 0⟩] scope pos) 0 (.ref it) (.ref D) ce) (RRx (model X.prog X.w) X.A X.xe (EP X pins σ Q) (.ref D) s3.heap.objs.size ce) s4 := by
    refine compLoop_any (fun n s' => ∃ i H', Inv (X.blk s3 H3 scope ce fp) [] (wipe σ (own.map (·.2))) H' s' ∧ tn i s'.heap ∧ (∀ b ∈ fp, H' b = none) ∧ Wt i n H') ?_ m0 ⟨0, H3, I4, st4, nfp, w0⟩
    rintro n s5 ⟨i, H5, I5, st5, n5, w5⟩
    rcases turn i n H5 w5 with ⟨stop, qq⟩ | ⟨go, Nx, hNx, step⟩
    · refine thnF (T.done (X.blk s3 H3 scope ce fp) rfl rfl rfl hcb i [] s5 _ H5 (fun _ _ => False) I5 (stat I5 n5) st5 stop) fun r s6 ⟨hr, I6⟩ => ?_
      subst hr
      have I7 : Inv X pins σ H5 s6 := I3.call' (ch := fp) I6.os I6.base I6.hok I6.bare fun b hb => ⟨(f3 b hb).1.2.2.2.1, (f3 b hb).1.2.1, (f3 b hb).1.2.2.2.2.1, (f3 b hb).1.2.2.2.2.2⟩
      have nC : H5 s3.heap.objs.size = none := by
        have z : H5 ce.locals = none := I6.free
        rw [cL] at z
        exact z
      obtain ⟨m, hn, _⟩ := I6.loc
      have hn : s6.heap.Ns ce.locals m := hn
      rw [cL] at hn
      obtain ⟨f0, f1, f2, f3, f4, f5⟩ := I3.fpOk (Nat.le_refl _) nC
      exact ⟨m, hn, fun h'' sb => ⟨.ref D, H5, I7.turned (t' := s6.toks) (fun b o hb e => (sb.2 b hb).trans e) f0 f1 f3 f4 f5, rfl, qq⟩⟩
    · refine thnF (T.item (X.blk s3 H3 scope ce fp) rfl rfl rfl hcb i [] s5 _ H5 (fun _ _ => False) I5 (stat I5 n5) st5 go) fun r s6 ⟨u, hr, h6⟩ => ?_
      subst hr
      refine thnF h6 fun _ s7 ⟨x, H7, I7, r7, y7, st7, n7⟩ => ?_
      have I7' := I7.pinned (stat I7 n7) (T.obj _ _ st7)
      refine thnF (pg.run _ s7 _ H7 x u _ I7' r7 (step x H7 y7)) fun _ s8 ⟨σ8, H8, I8, hw8, q8⟩ => ?_
      refine thnF (pt.run _ s8 σ8 H8 _ I8 q8) fun b s9 ⟨H9, I9, q9⟩ => ?_
      have fin : ∀ {s' : Shared} {H' : Hp}, Inv (X.blk s3 H3 scope ce fp) ([] ++ pinsAt fp s7.heap) σ8 H' s' → Nx H' → ∃ m, m < n ∧ ∃ i H', Inv (X.blk s3 H3 scope ce fp) [] (wipe σ (own.map (·.2))) H' s' ∧ tn i s'.heap ∧ (∀ b ∈ fp, H' b = none) ∧ Wt i m H' := fun {s' H'} I' nx => by
        obtain ⟨m', hm, w'⟩ := hNx H' nx
        have pin' : ∀ b ∈ fp, ∀ o, s7.heap.get? b = some o → s'.heap.get? b = some o ∧ H' b = none := fun b hb o e =>
          let z := I'.pin (b, o) (List.mem_append_right _ (List.mem_append_right _ (mem_pinsAt hb e)))
          ⟨z.1, z.2.1⟩
        have hl : (wipe σ (own.map (·.2))).length = σ8.length := by rw [← hw8, wipe_length]
        refine ⟨m', hm, i + 1, H', (I'.unpinned (pins := [])).weak hl (fun j v e => ?_), T.keep _ _ _ st7 fun b hb o e => (pin' b hb o e).1, fun b hb => ?_, w'⟩
        · rw [← hw8] at e
          exact (wipe_some e).1
        · obtain ⟨o, e, _⟩ := T.obj _ _ st7 b hb
          exact (pin' b hb o e).2
      cases b with
      | false =>
        simp only [Bool.false_eq_true, if_false] at q9 ⊢
        exact fin I9 q9
      | true =>
        simp only [if_true] at q9 ⊢
        refine wpAny_mono (pe.run _ s9 σ8 H9 _ (inv_wish I9) q9) (fun z s10 ⟨yv, H10, I10, r10, acc, hD10, hz10, nx⟩ => ?_) fun e s10 hx => ?_
        rotate_left
        · obtain ⟨pinsb, σb, Hb, sb, Eb, Ib, cx, wE⟩ := hx
          have IX : Inv X pins σ Hb sb := I3.call' (ch := fp) Ib.os Ib.base Ib.hok Ib.bare fun b hb => ⟨(f3 b hb).1.2.2.2.1, (f3 b hb).1.2.1, (f3 b hb).1.2.2.2.2.1, (f3 b hb).1.2.2.2.2.2⟩
          have nC : Hb s3.heap.objs.size = none := by
            have z : Hb ce.locals = none := Ib.free
            rw [cL] at z
            exact z
          obtain ⟨m, hn, _⟩ := Ib.loc
          have hn : sb.heap.Ns ce.locals m := hn
          rw [cL] at hn
          exact item_error st fr tk hW IX hn (I3.fpOk (Nat.le_refl _) nC) cx wE cF
        have I10 := inv_unwish I10
        exact app_ok (X := X.blk s3 H3 scope ce fp) I10 hD10 hz10 r10 fun s11 I11 => fin I11 nx
  exact codeAny_compStart_list loop (T.self X.A 0 _ _ _ st4 loop)
/-- what is read of such a comprehension -/
def tLcX (wi : TI) (g : TG) (tt : TT) (te : TE) (us : List Nat) : TE := tLc wi g tt te us
theorem pe_lcX {elt tg iter : Expr} {ifs : List Expr} {scope : Scope} {own : List (Str × Nat)} {pos : Pos} {wi : TI} {g : TG} {tt : TT} {te : TE} (hc : X.calm = true) (st : X.stack = X.env :: X.outer) (fr : X.env.frame = some X.env.locals) {W : WX} (tk : L2N.Takes X W) (hW : ∀ cls d σ σ' H, W cls d σ H → W cls d σ' H) (nfr : scope.names.all (fun x => x.2 != .free) = true) (hN : X.N.Nodup) (hi : PI X tg iter wi) (ok : BlkOk X.N X.env.scope scope own)
    (hg : ∀ (s : Shared) (H : Hp) (C : Addr) (cl : List (Str × Addr)) (fp : List Addr), PG (X.blk s H scope (compEnvC scope cl C X.env) fp) tg g) (ht : ∀ (s : Shared) (H : Hp) (C : Addr) (cl : List (Str × Addr)) (fp : List Addr), PTs (X.blk s H scope (compEnvC scope cl C X.env) fp) ifs tt)
    (he : ∀ (s : Shared) (H : Hp) (C : Addr) (cl : List (Str × Addr)) (fp : List Addr), PE (blkX X W s H scope (compEnvC scope cl C X.env) fp) elt te) (hs : ∀ x, foldedSetIterable iter X.env x = pure x := by intro _; rfl) :
    PE X (.ListComp elt [⟨tg, iter, ifs, 0⟩] scope pos) (tLcX wi g tt te (own.map (·.2))) := by
  refine ⟨fun pins s σ H Q I h => ?_⟩
  rw [eval_ListComp]
  exact lc_coreX hc st fr tk hW (fun x m z => by
    have := List.all_eq_true.mp nfr x m
    rw [z] at this
    cases this) hN I hi ok hg ht he hs h
end
end
end Vb
namespace Pu
open PySem PySem.Spec PyProof.Rows L2
/-! ### a comprehension whose item may raise -/
section
variable {so : Option Addr} {c : Ct so} {K : PySem.W.Frag} {env : Ev} {k : Rs → Ev → Prop} {te tl : TE} {t : TA} {tt tt1 : TT} {ts : TS} {g g1 : TG} {vs vs1 : List Nat} {kk : List Asn → Prop}
/-- what a def wishes of an exception it wishes within a comprehension too -/
def ExtC (c c' : Ct so) : Prop := ∀ (X : XP) (Ex : L2.St → XK), ExOk c (fun _ => X) Ex → ExOk c' (fun _ => X) Ex
theorem extC_hold {D : Addr} {o : HO} (g0 : c.G D = none) : ExtC c (c.hold D o) := fun _ _ h S env σ H C fs d g R w => h S env σ H C fs d g (R.unhold g0) w
def LcGX (c : Ct so) (As : List Asn) (vs : List Nat) (g : TG) (tt : TT) (te : TE) (env : Ev) (kk : List Asn → Prop) : Prop := ∃ Inv : Nat → List Asn → Prop, Inv 0 [] ∧ (∀ (c' : Ct so), ExtC c c' → ∀ i A acc, As[i]? = some A → Inv i acc → GV c' vs g A (unE env vs) fun env1 => LcS c' tt te env1 acc (Inv (i + 1))) ∧ ∀ acc, Inv As.length acc → kk acc
theorem e_lcGX {wi : TI} {vs us : List Nat} (hu : us = vs) (h : IT c wi env fun As env1 => NoOwns env1 vs ∧ LcGX c As vs g tt te env1 fun acc => k (.o (Lc acc)) env1) : E c (Vb.tLcX wi g tt te us) env k := fun S σ H Q R z => by
  subst hu
  refine Vb.r_lc (h S σ H _ R fun S1 J H1 As env1 g1 e1 R1 q1 => ?_)
  obtain ⟨no, Inv, i0, is, ie⟩ := g1
  intro D nD
  have nn := no.all
  refine ⟨fun i m H' => m = As.length - i ∧ i ≤ As.length ∧ ∃ S' acc, Inv i acc ∧ Same S1 S' ∧ Fill c S' env1 σ H' D acc, ⟨As.length - 0, rfl, Nat.zero_le _, S1, [], i0, Same.refl S1, .new R1 nD⟩, ?_⟩
  rintro i m H' ⟨rfl, hi, S', acc, hI, e', F⟩
  by_cases zz : i = As.length
  · subst zz
    exact .inl ⟨(q1 c).stop S' env1 σ H' e' F.R, z S' _ H' _ env1 (ie acc hI) (e1.trans e') F.R F.done⟩
  · refine .inr ?_
    have hA : As[i]? = some (As[i]'(by omega)) := List.getElem?_eq_getElem (by omega)
    obtain ⟨ys, hD, hys⟩ := F.h
    have RH := F.R.hold hD (fun z => z) F.h0 F.hs F.no
    obtain ⟨g1, g2⟩ := (q1 (c.hold D (.lst ys))).go S' env1 σ H' i _ e' RH hA
    refine ⟨g1, fun H2 => ∃ S2 acc', Inv (i + 1) acc' ∧ Same S1 S2 ∧ Fill c S2 env1 σ H2 D acc', fun H2 ⟨S2, acc', a, b, d⟩ => ⟨_, by omega, rfl, by omega, S2, acc', a, b, d⟩, fun x H2 hy => ?_⟩
    obtain ⟨S2, e2, R2, rA, _⟩ := g2 x H2 hy
    refine is _ (extC_hold F.hg) i _ acc hA hI S2 _ H2 x _ (R2.wiped us) rA fun σ3 env3 g3 R3 w3 n3 => ⟨w3.trans wipe_wipe, ?_⟩
    refine lcs_run g3 R3 (hys.up e2) F.hg fun S4 H4 acc' ys' hN e4 R4 hD4 hy4 hs4 => ⟨S4, acc', hN, e'.trans (e2.trans e4), (R2.unhold F.hg).backV e4 nn R4 (fun j n => ?_) (fun j n => ?_), ⟨ys', hD4, hy4⟩, F.h0, hs4, F.hg, F.no⟩
    · rw [n3 j n, unE_out n]
    · exact wipe_out_eq (w3.trans wipe_wipe) n
/-- one item for each -/
theorem lcX_map {α : Type} {f h : α → Asn} {xs : List α} (l : xs.length ≤ 16777216) (hs : ∀ (c' : Ct so), ExtC c c' → ∀ (i : Nat) (x : α), xs[i]? = some x → GV c' vs g (f x) (unE env vs) fun env1 => E c' te env1 fun r e => Z r fun r1 => Fz [r1] e fun Bs e' => Bs = [h x] ∧ e' = env1) (hd : kk (xs.map h)) : LcGX c (xs.map f) vs g tYes te env kk := by
  refine ⟨fun i acc => acc = (xs.take i).map h, rfl, ?_, ?_⟩
  · rintro c' hT i A acc hA rfl
    rw [List.getElem?_map] at hA
    cases hx : xs[i]? with
    | none => rw [hx] at hA; cases hA
    | some x =>
      rw [hx] at hA
      cases hA
      have li := (List.getElem?_eq_some_iff.mp hx).1
      refine (hs c' hT i x hx).imp fun env1 z => lcs_yes (z.imp fun _ _ z => Z.imp (fun _ z => Fz.imp (fun _ _ ⟨h1, h2⟩ => ⟨h x, h x, h1, Imp.rfl, h2, by rw [List.length_map, List.length_take]; omega, ?_⟩) z) z)
      show _ = (xs.take (i + 1)).map h
      rw [List.take_add_one, hx, List.map_append]
      rfl
  · rintro acc e
    have e : acc = (xs.take (xs.map f).length).map h := e
    rw [List.length_map, List.take_length] at e
    rw [e]
    exact hd
/-- what holds of each item, by its place -/
theorem lcX_draw {α β : Type} {f : α → Asn} {h : β → Asn} {xs : List α} (Pr : Nat → α → β → Prop) (l : xs.length ≤ 16777216) (hs : ∀ (c' : Ct so), ExtC c c' → ∀ (i : Nat) (x : α) (ys : List β), xs[i]? = some x → ys.length = i → (∀ (m : Nat) x y, xs[m]? = some x → ys[m]? = some y → Pr m x y) → GV c' vs g (f x) (unE env vs) fun env1 => E c' te env1 fun r e => Z r fun r1 => Fz [r1] e fun Bs e' => ∃ y, Bs = [h y] ∧ e' = env1 ∧ Pr i x y) (hd : ∀ ys : List β, ys.length = xs.length → (∀ (i : Nat) x y, xs[i]? = some x → ys[i]? = some y → Pr i x y) → kk (ys.map h)) : LcGX c (xs.map f) vs g tYes te env kk := by
  refine ⟨fun i acc => ∃ ys : List β, acc = ys.map h ∧ ys.length = i ∧ ∀ (m : Nat) x y, xs[m]? = some x → ys[m]? = some y → Pr m x y, ⟨[], rfl, rfl, fun m x y _ h => by simp at h⟩, ?_, ?_⟩
  · rintro c' hT i A acc hA ⟨ys, rfl, ly, hy⟩
    rw [List.getElem?_map] at hA
    cases hx : xs[i]? with
    | none => rw [hx] at hA; cases hA
    | some x =>
      rw [hx] at hA
      cases hA
      have li := (List.getElem?_eq_some_iff.mp hx).1
      refine (hs c' hT i x ys hx ly hy).imp fun env1 z => lcs_yes (z.imp fun _ _ z => Z.imp (fun _ z => Fz.imp (fun _ _ ⟨y, h1, h2, h3⟩ => ⟨h y, h y, h1, Imp.rfl, h2, by rw [List.length_map]; omega, ys ++ [y], by rw [List.map_append]; rfl, by rw [List.length_append, ly]; rfl, fun m x' y' hm hy' => ?_⟩) z) z)
      rcases snoc_get hy' with ⟨_, h⟩ | ⟨h, rfl⟩
      · exact hy m x' y' hm h
      · obtain rfl : m = i := by omega
        rw [hx] at hm
        cases hm
        exact h3
  · rintro acc ⟨ys, rfl, ly, hy⟩
    exact hd ys (by rw [ly, List.length_map]) hy
end
end Pu
namespace Vb
open PySem PySem.Spec PyProof.Rows L2
section
variable {X : Cx} {H : Hp} {Q : VK}
def rStrI : List V → Hp → VK → Prop := fun xs H Q => ∃ i : Int, xs = [.int i] ∧ i.natAbs.log2 < 1920 ∧ Q (.str (toString i)) H
theorem call_strI : CallR X (.type "str") rStrI := call_str_int
def rIntS : List V → Hp → VK → Prop := fun xs H Q => ∃ a n, xs = [.str a] ∧ PySem.intText? a = some n ∧ a.length ≤ 640 ∧ Q (.int n) H
theorem call_intS : CallR X (.type "int") rIntS := call_int_str
def rFind : V → List V → Hp → VK → Prop := fun x xs H Q => ∃ a b, x = .str a ∧ xs = [.str b] ∧ Q (.int (Txt.find a b)) H
theorem pe_findN {o e : Expr} {to te : TE} {apos pos : Pos} (ho : PE X o to) (he : PE X e te) (hs : starEach [e] X.env = [(false, eval e X.env)] := by rfl) (hbase : attributeBase o "find" X.env (eval o X.env) = eval o X.env := by rfl) (hline : (apos.endLine == pos.line) = true := by rfl) :
    PE X (.Call (.Attribute o "find" apos) [e] [] pos) (tM1 rFind to te) := L2.pe_m1 PySem.F.slot_str_find PySem.F.type_str_find mt_find ho he hs hbase hline
end
end Vb
namespace Pu
open PySem PySem.Spec PyProof.Rows L2
/-! ### texts -/
section
variable {so : Option Addr} {c : Ct so} {K K' : PySem.W.Frag} {env : Ev} {k : Rs → Ev → Prop} {te to : TE}
theorem r_mulSt {z : Str} {n : Int} (h : n < 1000000 ∧ -1000000 < n ∧ z.length * n.toNat ≤ 16777216) (q : k (.v (Sr (Txt.mul z n))) env) : R2 c Vb.rMulS (.v (Sr z)) (.v (I n)) env k := r2_c (fun _ _ => Vb.r_mulS h) q
theorem r_inSt {ch : Nat} {x z : Str} (e : Vb.sg x = [ch]) (q : k (.v (Bo (decide (ch ∈ Vb.sg z)))) env) : R2 c (Vb.rInSg false) (.v (Sr x)) (.v (Sr z)) env k := r2_c (fun _ _ => Vb.r_inSgV e) q
theorem r_niSt {ch : Nat} {x z : Str} (e : Vb.sg x = [ch]) (q : k (.v (Bo (!decide (ch ∈ Vb.sg z)))) env) : R2 c (Vb.rInSg true) (.v (Sr x)) (.v (Sr z)) env k := r2_c (fun H Q w => by
  obtain rfl : x = ⟨#[ch]⟩ := Vb.sg_ext e
  exact Vb.r_niSg w) q
theorem r_ixSt {z : Str} {i : Int} {ch : Nat} (l : z.length ≤ sizeLine) (e : atI (Vb.sg z) i = some ch) (q : k (.v (Sr ⟨#[ch]⟩)) env) : R2 c rIxS (.v (Sr z)) (.v (I i)) env k := r2_c (fun _ _ => Vb.r_ixS l e) q
theorem r_slSt {z : Str} {lo hi : Option Int} (l : z.length ≤ sizeLine) (q : k (.v (Sr (cutS z lo hi))) env) : RS c rSlS (.v (Sr z)) lo hi env k := fun S σ H x Q R d qx w => by
  cases (show x = .str z from qx)
  exact Vb.r_cutS l (w S _ H _ env q (Same.refl S) R rfl)
theorem rl1_c {f : List V → Hp → VK → Prop} {x w : V} (h : ∀ H Q, Q w H → f [x] H Q) (q : k (.v (Vl w)) env) : RL c f [.v (Vl x)] env k := fun S σ H xs Q R qs z => by
  obtain _ | ⟨x', _ | ⟨y', xs⟩⟩ := xs
  · exact qs.elim
  · cases (show x' = x from qs.1.2)
    exact h H Q (z S _ H _ env q (Same.refl S) R rfl)
  · exact qs.2.elim
theorem r_lenSt {z : Str} (l : z.length ≤ sizeLine) (q : k (.v (I z.length)) env) : RL c Vb.rLenStr [.v (Sr z)] env k := rl1_c (fun _ _ => Vb.r_lenS l) q
theorem r_strI {n : Int} (l : n.natAbs.log2 < 1920) (q : k (.v (Sr (toString n))) env) : RL c Vb.rStrI [.v (I n)] env k := rl1_c (fun _ _ w => ⟨n, rfl, l, w⟩) q
theorem r_intS {a : Str} {n : Int} (h : PySem.intText? a = some n) (l : a.length ≤ 640) (q : k (.v (I n)) env) : RL c Vb.rIntS [.v (Sr a)] env k := rl1_c (fun _ _ w => ⟨a, n, rfl, h, l, w⟩) q
theorem All.bls {S : Hp} : ∀ {bs : List Bool} {vs : List V}, All S (bs.map Bo) vs → vs = bs.map V.bl
  | [], [], _ => rfl
  | _ :: _, _ :: _, h => by rw [h.1, All.bls h.2]; rfl
  | [], _ :: _, h => h.elim
  | _ :: _, [], h => h.elim
theorem All.strs {S : Hp} : ∀ {bs : List Str} {vs : List V}, All S (bs.map Sr) vs → vs = bs.map V.str
  | [], [], _ => rfl
  | _ :: _, _ :: _, h => by rw [h.1, All.strs h.2]; rfl
  | [], _ :: _, h => h.elim
  | _ :: _, [], h => h.elim
theorem All.of_strs {S : Hp} (ns : List Str) : All S (ns.map Sr) (ns.map V.str) := All.map (f := Sr) (g := V.str) (fun _ => rfl) ns
theorem r_allL {r : Rs} {bs : List Bool} (e0 : K' = K) (h : IsL env r (bs.map Bo)) (q : k (.v (Bo (bs.all id))) env) : RL c (rAll K') [r] env k := fun S σ H xs Q R qs z => by
  subst e0
  obtain _ | ⟨x', _ | ⟨y', xs⟩⟩ := xs
  · exact qs.elim
  · obtain ⟨a, ys, rfl, s, g⟩ := h.go R qs.1.2
    rw [All.bls g] at s
    exact Vb.r_all (Vb.sq_of s) (z S _ H _ env q (Same.refl S) R rfl)
  · exact qs.2.elim
/-- a method of a text with one argument -/
theorem e_M1 {f : V → List V → Hp → VK → Prop} (h : E c to env fun r0 env1 => ∃ s, r0 = .v (Sr s) ∧ E c te env1 fun r env2 => Z r fun r1 => R1 c (fun y H Q => f (.str s) [y] H Q) r1 env2 k) : E c (tM1 f to te) env k := fun S σ H Q R z => by
  refine h S σ H _ R fun S1 x H1 r env1 g1 e1 R1 q1 => ?_
  obtain ⟨s, rfl, g1⟩ := g1
  cases (show x = .str s from q1)
  refine ⟨⟨s, rfl⟩, g1 S1 σ H1 _ R1 fun S2 y H2 r2 env2 g2 e2 R2 q2 => ?_⟩
  obtain ⟨r3, S3, g3, d3, e3, R3, q3⟩ := g2.go R2 q2
  exact g3 S3 σ H2 y Q R3 d3 q3 fun S5 w H5 r5 env5 g5 e5 R5 q5 => z S5 w H5 r5 env5 g5 (e1.trans (e2.trans (e3.trans e5))) R5 q5
theorem q_sr {s : Str} {P : Str → Prop} (q : P s) : ∃ s', Rs.v (Sr s) = .v (Sr s') ∧ P s' := ⟨s, rfl, q⟩
theorem r1_join {a : Str} {r : Rs} {ws : List Str} (e0 : K' = K) (h : IsL env r (ws.map Sr)) (l : (ws.map (·.length)).sum + ws.length * a.length ≤ 16777216) (q : k (.v (Sr (Txt.join a ws))) env) : R1 c (fun y H Q => Vb.rJoin K' (.str a) [y] H Q) r env k := fun S σ H x Q R d qx z => by
  subst e0
  obtain ⟨b, ys, rfl, s, g⟩ := h.go R qx
  rw [All.strs g] at s
  exact Vb.r_join (Vb.sq_of s) l (z S _ H _ env q (Same.refl S) R rfl)
theorem r1_split {a b : Str} (hb : (b.length == 0) = false) (l : a.length + 2 ≤ sizeLine) (q : k (.o (Lc ((Txt.split a b).map Sr))) env) : R1 c (fun y H Q => Vb.rSplit (.str a) [y] H Q) (.v (Sr b)) env k := fun S σ H x Q R d qx z => by
  cases (show x = .str b from qx)
  exact Vb.r_split hb l (newL R (All.of_strs _) q (Same.refl S) z)
theorem r1_find {a b : Str} (q : k (.v (I (Txt.find a b))) env) : R1 c (fun y H Q => Vb.rFind (.str a) [y] H Q) (.v (Sr b)) env k := fun S σ H x Q R d qx z => by
  cases (show x = .str b from qx)
  exact ⟨a, b, rfl, rfl, z S _ H _ env q (Same.refl S) R rfl⟩
/-- the signs of a text, one by one -/
abbrev sgA (x : Str) : List Asn := (Vb.sg x).map fun ch => Sr ⟨#[ch]⟩
theorem it_str {ki : List Asn → Ev → Prop} (h : E c te env fun r env1 => ∃ x, r = .v (Sr x) ∧ ki (sgA x) env1) : IT c (iStr te) env ki := fun S σ H R Rp z => by
  refine Vb.r_iStr (h S σ H _ Rp fun S1 v H1 r env1 g1 e1 R1 q1 => ?_)
  obtain ⟨x, rfl, g⟩ := g1
  cases (show v = .str x from q1)
  have e : x.cps.size = (Vb.sg x).length := (Array.length_toList).symm
  refine ⟨x, rfl, z S1 (Its x) H1 _ env1 g e1 R1 fun c' => ⟨fun S' env' σ' H' e' R' => ?_, fun S' env' σ' H' i A e' R' hA => ?_⟩⟩
  · rw [List.length_map]
    exact Nat.le_of_eq e
  · rw [List.getElem?_map] at hA
    cases hc : (Vb.sg x)[i]? with
    | none => rw [hc] at hA; cases hA
    | some ch =>
      rw [hc] at hA
      cases hA
      have li := (List.getElem?_eq_some_iff.mp hc).1
      refine ⟨(by omega : i < x.cps.size), fun y H2 hy => ?_⟩
      obtain ⟨rfl, ch', hch, rfl⟩ := hy
      have hch := Vb.at_sg hch
      rw [hc] at hch
      cases hch
      exact ⟨S', Same.refl S', R', rfl, fun _ _ h => h⟩
end
end Pu
namespace Vb
open PySem PySem.Spec PyProof.Rows L2
def tTru (K : PySem.W.Frag) (ta : TE) : TT := fun σ H Q => ta σ H fun x H' => ∃ k, TruV K x H' k ∧ Q k H'
theorem pt_tru {X : Cx} {a : Expr} {ta : TE} (h : PE X a ta) (e : ∀ (whole : Sem Value), PySem.isTrue a X.env whole = do let v ← whole; standAt a.pos; holding [v] (truthy v)) : PT X a (tTru X.K ta) := pt_truth h e
end Vb
namespace Pu
open PySem PySem.Spec PyProof.Rows L2
section
variable {so : Option Addr} {c : Ct so} {K K' : PySem.W.Frag} {env : Ev} {kt : Bool → Ev → Prop} {te : TE}
/-- a list or a tuple as a test -/
theorem t_tru (e0 : K' = K) (h : E c te env fun r env1 => ∃ As, IsA K env1 r As ∧ kt (!As.isEmpty) env1) : T c (Vb.tTru K' te) env kt := fun S σ H Q R z => by
  subst e0
  refine h S σ H _ R fun S1 x H1 r env1 g1 e1 R1 q1 => ?_
  obtain ⟨As, hA, g⟩ := g1
  obtain ⟨a, ys, rfl, s, al⟩ := hA.go R1 q1
  refine ⟨!As.isEmpty, ?_, z S1 _ H1 env1 g e1 R1⟩
  have ee : (!As.isEmpty) = !ys.isEmpty := by
    have := al.len
    cases As <;> cases ys <;> first | rfl | (simp at this)
  rcases s with s | s
  · exact .inl ⟨ys, Vb.sq_of s, ee⟩
  · exact .inr (.inl ⟨ys, s, ee⟩)
theorem q_isA {r : Rs} {As : List Asn} {P : List Asn → Prop} (h : IsA K env r As) (q : P As) : ∃ Bs, IsA K env r Bs ∧ P Bs := ⟨As, h, q⟩
end
end Pu
namespace Pu
open PySem PySem.Spec PyProof.Rows L2
section
variable {so : Option Addr} {c : Ct so} {K : PySem.W.Frag} {env : Ev} {te tl : TE} {tt : TT} {kk : List Asn → Prop}
/-- the places that pass the test -/
theorem lcN_filter {n : Nat} {it h : Nat → Asn} {p : Nat → Bool} {j : Nat} (l : n ≤ 16777216) (hs : ∀ (c' : Ct so) (i : Nat), i < n → T c' tt (env.set j (.v (it i))) fun b e0 => ∃ b', b = b' ∧ b' = p i ∧ e0 = env.set j (.v (it i)) ∧ (p i = true → E c' te (env.set j (.v (it i))) fun r e => Z r fun r1 => Fz [r1] e fun Bs e' => Bs = [h i] ∧ e' = env.set j (.v (it i)))) (hd : kk (((List.range n).filter p).map h)) : LcN c n it j tt te env kk := by
  refine lcN (fun i acc => acc = ((List.range i).filter p).map h) rfl ?_ ?_
  · rintro c' i acc hi rfl
    have tk : (List.range (i + 1)).filter p = (List.range i).filter p ++ if p i then [i] else [] := by
      rw [List.range_succ, List.filter_append]
      congr 1
      show [i].filter p = _
      rw [List.filter_cons, List.filter_nil]
    refine T.imp (hs c' i hi) fun b e0 ⟨b', hb', hb, he, z⟩ => ?_
    subst hb' hb he
    by_cases hp : p i = true
    · rw [if_pos hp]
      refine (z hp).imp fun _ _ z => Z.imp (fun _ z => Fz.imp (fun _ _ ⟨h1, h2⟩ => ⟨h i, h i, h1, Imp.rfl, h2, ?_, ?_⟩) z) z
      · rw [List.length_map]
        exact Nat.lt_of_le_of_lt (List.length_filter_le _ _) (by rw [List.length_range]; omega)
      · rw [tk, if_pos hp, List.map_append]
        rfl
    · rw [if_neg hp]
      exact ⟨rfl, by rw [tk, if_neg hp, List.append_nil]⟩
  · rintro acc rfl
    exact hd
theorem q_lcN {acc : List Asn} {P : List Asn → Prop} (q : P acc) : P acc := q
end
end Pu
namespace Vb
open PySem PySem.Spec PyProof.Rows L2
/-! ### a tuple of whole numbers that the top has written -/
structure TcK (K : PySem.W.Frag) (a : Addr) (ns : List Int) : Prop where
  h : ∃ (o : Obj) (its : Array Value) (n : Nat), List.lookup a K = some o ∧ o.cls = .type "tuple" ∧ o.dict = none ∧ o.data = .seq its n ∧ its.size ≤ sizeLine ∧ Vals (ns.map V.int) its.toList
theorem TcK.sqt {K : PySem.W.Frag} {H : Hp} {a : Addr} {ns : List Int} (t : TcK K a ns) : SqT K H a (ns.map V.int) := by
  obtain ⟨o, its, n, h1, h2, _, h3, h4, h5⟩ := t.h
  exact .inr ⟨o, its, n, h1, h2, h3, h4, h5⟩
theorem tc_mk3 {K : PySem.W.Frag} {a : Addr} {i1 i2 i3 : Int} {t1 t2 t3 : Tok} {n : Nat} {sl : Array (Option Value)} (l : K.lookup a = some ⟨.type "tuple", none, .seq #[.int i1 t1, .int i2 t2, .int i3 t3] n, sl⟩) : TcK K a [i1, i2, i3] := ⟨_, _, _, l, rfl, rfl, rfl, (by show _ ≤ 16777216; exact Nat.le_of_ble_eq_true rfl), .cons ⟨_, rfl⟩ (.cons ⟨_, rfl⟩ (.cons ⟨_, rfl⟩ .nil))⟩
theorem tc_mk6 {K : PySem.W.Frag} {a : Addr} {i1 i2 i3 i4 i5 i6 : Int} {t1 t2 t3 t4 t5 t6 : Tok} {n : Nat} {sl : Array (Option Value)} (l : K.lookup a = some ⟨.type "tuple", none, .seq #[.int i1 t1, .int i2 t2, .int i3 t3, .int i4 t4, .int i5 t5, .int i6 t6] n, sl⟩) : TcK K a [i1, i2, i3, i4, i5, i6] := ⟨_, _, _, l, rfl, rfl, rfl, (by show _ ≤ 16777216; exact Nat.le_of_ble_eq_true rfl), .cons ⟨_, rfl⟩ (.cons ⟨_, rfl⟩ (.cons ⟨_, rfl⟩ (.cons ⟨_, rfl⟩ (.cons ⟨_, rfl⟩ (.cons ⟨_, rfl⟩ .nil)))))⟩
def tTruI (K : PySem.W.Frag) (te : TE) : TT := tTru K te
theorem pt_truI {X : Cx} {K : PySem.W.Frag} (e0 : X.K = K) {a : Expr} {ta : TE} (h : PE X a ta) (e : ∀ (whole : Sem Value), PySem.isTrue a X.env whole = do let v ← whole; standAt a.pos; holding [v] (truthy v)) : PT X a (tTruI K ta) := by
  subst e0
  exact pt_tru h e
theorem pt_truK {X : Cx} {K : PySem.W.Frag} (e0 : X.K = K) {a : Expr} {ta : TE} (h : PE X a ta) (e : ∀ (whole : Sem Value), PySem.isTrue a X.env whole = do let v ← whole; standAt a.pos; holding [v] (truthy v)) : PT X a (tTru K ta) := by
  subst e0
  exact pt_tru h e
section
variable {X : Cx} {K : PySem.W.Frag} {H : Hp} {Q : VK}
theorem r_inSq {neg : Bool} {a : Addr} {x : Int} {ns : List Int} (h : SqL K H a (ns.map V.int) ∨ SqT K H a (ns.map V.int)) (q : Q (.bl (if neg then !decide (x ∈ ns) else decide (x ∈ ns))) H) : rIn K neg (.int x) (.ref a) H Q := by
  refine ⟨a, _, rfl, h, rfl, ?_, ?_⟩
  · rw [List.all_eq_true]
    intro v m
    obtain ⟨y, _, rfl⟩ := List.mem_map.mp m
    rfl
  · rw [inV_ints]
    exact q
def rIdxI (K : PySem.W.Frag) : V → List V → Hp → VK → Prop := fun x xs H Q => ∃ p, ∃ ys : List Int, ∃ z j, x = .ref p ∧ xs = [.int z] ∧ SqT K H p (ys.map V.int) ∧ ys[j]? = some z ∧ (∀ m, m < j → ys[m]? ≠ some z) ∧ Q (.int (j : Nat)) H
theorem mt_idxI : MtR X "tuple.index" (rIdxI X.K) := by
  intro pins s σ H x xs v us Q I rx ru h
  obtain ⟨p, ys, z, j, rfl, rfl, hs, hj, hm, q⟩ := h
  obtain rfl : v = Value.ref p := rx
  obtain ⟨u0, rfl, r0⟩ := vals1 ru
  obtain ⟨t0, rfl⟩ := r0
  obtain ⟨its, rv, pt, _⟩ := I.tuple hs
  obtain ⟨o, e1, e2, n, e3⟩ := id pt
  obtain ⟨oc, od, odt, osl⟩ := o
  cases e2
  cases e3
  have vi := intsAre_vals rv
  have get : ∀ m, ∀ hm : m < its.toArray.size, ∃ y t, ys[m]? = some y ∧ its.toArray[m] = .int y t := fun m hm => by
    have hm' : m < its.length := by simpa using hm
    have lm : m < (ys.map V.int).length := by rw [rv.length]; exact hm'
    have g1 : (ys.map V.int)[m]? = some ((ys.map V.int)[m]) := List.getElem?_eq_getElem lm
    obtain ⟨u, hu, ru⟩ := rv.get g1
    rw [List.length_map] at lm
    refine ⟨ys[m], ?_⟩
    rw [List.getElem_map] at ru
    obtain ⟨t, rfl⟩ := ru
    refine ⟨t, List.getElem?_eq_getElem lm, ?_⟩
    have := List.getElem?_eq_getElem hm'
    rw [hu] at this
    simpa using (Option.some.inj this).symm
  have lj : j < its.toArray.size := by
    have := (List.getElem?_eq_some_iff.mp hj).1
    have l := rv.length
    rw [List.length_map] at l
    simp
    omega
  refine call_meets PySem.F.slot_tuple_index ⟨_, e1, rfl⟩ PySem.F.entry_tuple_index (PySem.F.args_tuple_index_2 _ _) (TI.tuple_indexAt p its.toArray n od osl (.int z t0) (eqk z) j lj ?_ ?_) ⟨e1, fun y hy => ?_, ?_⟩
  · obtain ⟨y, t, h1, h2⟩ := get j lj
    rw [h2]
    rw [hj] at h1
    cases h1
    show (z == z) = true
    simp
  · intro m hm1 hm2
    obtain ⟨y, t, h1, h2⟩ := get m hm1
    rw [h2]
    show (y == z) = false
    have := hm m hm2
    rw [h1] at this
    have : y ≠ z := fun e => this (by rw [e])
    simpa using this
  · obtain ⟨m, hm1, rfl⟩ := Array.getElem_of_mem hy
    obtain ⟨y, t, h1, h2⟩ := get m hm1
    rw [h2]
    exact SeqAt.EqAt.int_int y t z t0
  · exact ⟨.int j, H, I.tok _, ⟨_, rfl⟩, q⟩
def rMaxT (K : PySem.W.Frag) : List V → Hp → VK → Prop := fun vs H Q => ∃ (a : Addr) (ns : List Int), vs = [V.ref a] ∧ SqT K H a (ns.map V.int) ∧ 0 < ns.length ∧ ∀ m, m ∈ ns → (∀ y, y ∈ ns → y ≤ m) → Q (.int m) H
theorem cr_maxT (hc : X.calm = true) : CallR X (.builtin "max") (rMaxT X.K) := by
  intro pins s σ H xs us Q I ru h
  obtain ⟨a, ns, rfl, hs, hp, q⟩ := h
  obtain ⟨u0, rfl, r0⟩ := vals1 ru
  obtain rfl : u0 = Value.ref a := r0
  obtain ⟨its, rv, pt, _⟩ := I.tuple hs
  have hi := intsAre_vals rv
  have hh : X.A.handled = none := I.ok.hd hc
  obtain ⟨xs, e⟩ := hi.allInts.items
  have hn : xs.toList.map (·.1) = ns := by
    have h1 : its = (intItems xs).toList := by rw [← e]
    have h2 := hi.numsOf
    rw [h1, nums_intItems] at h2
    exact h2
  rw [e] at pt
  have ne : a ≠ s.heap.objs.size := fun z => by
    obtain ⟨o, ho, _⟩ := pt
    rw [z] at ho
    exact Nat.lt_irrefl _ (Heap.lt_size ho)
  refine call_max_walk (iter_tuple pt ⟨s.heap.objs.size, _, _, _, _, _, _, rfl, Walks.tuple (A := X.A.in1) hh s.heap.objs.size a ne (intItems xs), ⟨⟨_, Heap.get?_push_size _ rfl, rfl, rfl⟩, ?_⟩, ?_, ?_, CmpOf.ints_gt (numAt xs) (fun _ _ => intItems_at), fun v h' tk hv kp => ?_⟩)
  · obtain ⟨o, h1, h2⟩ := pt
    exact ⟨o, Heap.get?_push_of_some _ h1, h2⟩
  · intro b hb
    show b < (s.heap.push _).objs.size
    rw [Heap.size_push]
    rcases List.mem_cons.mp hb with rfl | hb
    · exact Nat.lt_succ_self _
    · rw [List.mem_singleton.mp hb]
      obtain ⟨o, ho, _⟩ := pt
      exact Nat.lt_succ_of_lt (Heap.lt_size ho)
  · have sz : (intItems xs).size = xs.size := by simp [intItems]
    rw [sz]
    have := congrArg List.length hn
    rw [List.length_map, Array.length_toList] at this
    omega
  · have sz : (intItems xs).size = xs.size := by simp [intItems]
    obtain ⟨t, rfl⟩ := intItems_at hv
    obtain ⟨h1, h2⟩ := argBest_gt (numAt xs) ((intItems xs).size - 1)
    have hpos : 0 < xs.size := by
      have := congrArg List.length hn
      rw [List.length_map, Array.length_toList] at this
      omega
    rw [sz] at h1 h2 hv ⊢
    have num : ∀ i, i < xs.size → numAt xs i ∈ ns := fun i hi => by
      rw [← hn]
      unfold numAt
      rw [Array.getElem?_eq_getElem hi]
      exact List.mem_map.mpr ⟨_, Array.getElem_mem_toList hi, rfl⟩
    have kk := kp
    refine ⟨.int (numAt xs (argBest (fun i j => decide (numAt xs i > numAt xs j)) (xs.size - 1))), H, I.kept (t' := tk) fun b o e => ?_, ⟨t, rfl⟩, q _ (num _ (by omega)) fun y m => ?_⟩
    · have lt := Heap.lt_size e
      refine kp b o (fun h => ?_) (Heap.get?_push_of_some _ e)
      rw [List.mem_singleton.mp h] at lt
      exact Nat.lt_irrefl _ lt
    · rw [← hn] at m
      obtain ⟨x, mx, rfl⟩ := List.mem_map.mp m
      obtain ⟨i, li, rfl⟩ := List.getElem_of_mem mx
      rw [Array.length_toList] at li
      have := h2 i (by omega)
      have e1 : numAt xs i = (xs.toList[i]).1 := by
        unfold numAt
        rw [Array.getElem?_eq_getElem li]
        rfl
      rw [e1] at this
      exact this
end
end Vb
namespace Pu
open PySem PySem.Spec PyProof.Rows L2
section
variable {so : Option Addr} {c : Ct so} {K K' : PySem.W.Frag} {env : Ev} {k : Rs → Ev → Prop} {kt : Bool → Ev → Prop} {te : TE} {t : TA}
theorem r_inC {neg : Bool} {a : Addr} {x : Int} {ns : List Int} (e0 : K' = K) (h : Vb.TcK K a ns) (q : k (.v (Bo (if neg then !decide (x ∈ ns) else decide (x ∈ ns)))) env) : R2 c (rIn K' neg) (.v (I x)) (.v (Rf a)) env k := fun S σ H y z Q R _ _ qy qz w => by
  subst e0
  cases (show y = .int x from qy)
  cases (show z = .ref a from qz)
  exact Vb.r_inSq (.inr h.sqt) (w S _ H _ env q (Same.refl S) R rfl)
theorem r_inT {neg : Bool} {x : Int} {ns : List Int} (e0 : K' = K) (q : k (.v (Bo (if neg then !decide (x ∈ ns) else decide (x ∈ ns)))) env) : R2 c (rIn K' neg) (.v (I x)) (.v (Tu K (ns.map I))) env k := fun S σ H y z Q R _ _ qy qz w => by
  subst e0
  cases (show y = .int x from qy)
  obtain ⟨a, ys, rfl, s, g⟩ := qz
  rw [All.ints g] at s
  exact Vb.r_inSq (.inr (Vb.sqd R.sh s)) (w S _ H _ env q (Same.refl S) R rfl)
theorem r_inCf {a : Addr} {x : Int} {ns : List Int} (e0 : K' = K) (h : Vb.TcK K a ns) (q : k (.v (Bo (decide (x ∈ ns)))) env) : R2 c (rIn K' false) (.v (I x)) (.v (Rf a)) env k := r_inC e0 h (by rw [if_neg (by decide)]; exact q)
theorem r_niC {a : Addr} {x : Int} {ns : List Int} (e0 : K' = K) (h : Vb.TcK K a ns) (q : k (.v (Bo (!decide (x ∈ ns)))) env) : R2 c (rIn K' true) (.v (I x)) (.v (Rf a)) env k := r_inC e0 h (by rw [if_pos rfl]; exact q)
theorem r_inTf {x : Int} {ns : List Int} (e0 : K' = K) (q : k (.v (Bo (decide (x ∈ ns)))) env) : R2 c (rIn K' false) (.v (I x)) (.v (Tu K (ns.map I))) env k := r_inT e0 (by rw [if_neg (by decide)]; exact q)
theorem r_niT {x : Int} {ns : List Int} (e0 : K' = K) (q : k (.v (Bo (!decide (x ∈ ns)))) env) : R2 c (rIn K' true) (.v (I x)) (.v (Tu K (ns.map I))) env k := r_inT e0 (by rw [if_pos rfl]; exact q)
/-- TUPLE.index(n) -/
theorem e_idxC {a : Addr} {ns : List Int} {to : TE} (e0 : K' = K) (h : Vb.TcK K a ns) (ho : E c to env fun r env1 => r = .v (Rf a) ∧ EA c t env1 fun rs env2 => ∃ z j, rs = [.v (I z)] ∧ ns[j]? = some z ∧ (∀ m, m < j → ns[m]? ≠ some z) ∧ k (.v (I (j : Nat))) env2) : E c (tBM K' "tuple" (Vb.rIdxI K') to t) env k := fun S σ H Q R z => by
  subst e0
  refine ho S σ H _ R fun S1 x H1 r env1 g1 e1 R1 q1 => ?_
  obtain ⟨rfl, g1⟩ := g1
  cases (show x = .ref a from q1)
  obtain ⟨o, its, n, h1, h2, h3, _⟩ := h.h
  refine ⟨.inr (.inl ⟨rfl, o, h1, h2, h3⟩), g1 S1 σ H1 _ R1 fun S2 xs H2 rs env2 g2 e2 R2 q2 => ?_⟩
  obtain ⟨v, j, rfl, hj, hm, g3⟩ := g2
  obtain _ | ⟨y, _ | ⟨y2, xs⟩⟩ := xs
  · exact q2.elim
  · cases (show y = .int v from q2.1.2)
    exact ⟨a, ns, v, j, rfl, rfl, h.sqt, hj, hm, z S2 _ H2 _ env2 g3 (e1.trans e2) R2 rfl⟩
  · exact q2.2.elim
/-- a whole number as a test -/
theorem t_truI (h : E c te env fun r env1 => ∃ n, r = .v (I n) ∧ kt (n != 0) env1) : T c (Vb.tTruI K' te) env kt := fun S σ H Q R z => by
  refine h S σ H _ R fun S1 x H1 r env1 g1 e1 R1 q1 => ?_
  obtain ⟨n, rfl, g⟩ := g1
  cases (show x = .int n from q1)
  exact ⟨n != 0, rfl, z S1 _ H1 env1 g e1 R1⟩
theorem r_maxT {ns : List Int} (e0 : K' = K) (hp : 0 < ns.length) (q : ∀ m, m ∈ ns → (∀ y, y ∈ ns → y ≤ m) → k (.v (I m)) env) : RL c (Vb.rMaxT K') [.v (Tu K (ns.map I))] env k := fun S σ H xs Q R qs z => by
  subst e0
  obtain _ | ⟨x', _ | ⟨y', xs⟩⟩ := xs
  · exact qs.elim
  · obtain ⟨a, ys, rfl, s, g⟩ := qs.1.2
    rw [All.ints g] at s
    exact ⟨a, ns, rfl, Vb.sqd R.sh s, hp, fun m hm hy => z S _ H _ env (q m hm hy) (Same.refl S) R rfl⟩
  · exact qs.2.elim
end
end Pu
namespace Pu
open PySem PySem.Spec PyProof.Rows L2
/-! ### what is asked holds already at the start: a part of what is known may be forgotten -/
/-- it is so in S, and was so in B -/
@[irreducible] def Bb (B : Hp) (A : Asn) : Asn := ⟨fun S x => A.r S x ∧ A.r B x, fun e h => ⟨A.up e h.1, h.2⟩⟩
theorem bb_l {B S : Hp} {A : Asn} {x : V} (h : (Bb B A).r S x) : A.r S x := by
  unfold Bb at h
  exact h.1
theorem bb_b {B S : Hp} {A : Asn} {x : V} (h : (Bb B A).r S x) : A.r B x := by
  unfold Bb at h
  exact h.2
theorem bb_mk {B S : Hp} {A : Asn} {x : V} (h : A.r S x) (g : A.r B x) : (Bb B A).r S x := by
  unfold Bb
  exact ⟨h, g⟩
/-- a list that B doesn't have, or a tuple -/
def Nq (B : Hp) (K : PySem.W.Frag) (As : List Asn) : Asn := ⟨fun S v => ∃ a xs, v = .ref a ∧ ((S a = some (.lst xs) ∧ B a = none) ∨ S a = some (.tup xs)) ∧ All S As xs, fun e ⟨a, xs, h, g, k⟩ => ⟨a, xs, h, g.imp (fun z => ⟨e _ _ z.1, z.2⟩) (e _ _), k.up e⟩⟩
theorem nq_sq {B : Hp} {K : PySem.W.Frag} {As : List Asn} : SqOf K (Nq B K As) As := fun _ _ ⟨a, xs, e, s, g⟩ => ⟨a, xs, e, s.imp (·.1) id, g⟩
/-- things that are no objects -/
inductive Fl : V → Prop
  | int (n : Int) : Fl (.int n)
  | bl (b : Bool) : Fl (.bl b)
  | non : Fl .non
theorem fl_dp {K : PySem.W.Frag} {H : Hp} : ∀ {xs : List V}, (∀ x ∈ xs, Fl x) → ∃ ds, DpAll K H xs ds ∧ NoL ds
  | [], _ => ⟨[], .nil, fun d m => by cases m⟩
  | x :: xs, h => by
    obtain ⟨ds, h1, h2⟩ := fl_dp (K := K) (H := H) fun y m => h y (List.mem_cons_of_mem _ m)
    have g : ∃ d, Dp K H x d ∧ Vb.isL d = false := by
      cases h x List.mem_cons_self with
      | int n => exact ⟨_, .int n, rfl⟩
      | bl n => exact ⟨_, .bl n, rfl⟩
      | non => exact ⟨_, .non, rfl⟩
    obtain ⟨d, g1, g2⟩ := g
    refine ⟨d :: ds, .cons g1 h1, fun e m => ?_⟩
    rcases List.mem_cons.mp m with rfl | m
    · exact g2
    · exact h2 e m
/-- of these nothing is an object -/
def Fls (As : List Asn) : Prop := ∀ S vs, All S As vs → ∀ x ∈ vs, Fl x
theorem fls_ints {ns : List Int} : Fls (ns.map I) := fun S vs h x m => by
  rw [h.ints] at m
  obtain ⟨n, _, rfl⟩ := List.mem_map.mp m
  exact .int n
section
variable {so : Option Addr} {c : Ct so} {K : PySem.W.Frag} {env env' : Ev} {k : Rs → Ev → Prop} {nx : Ev → Prop} {rt : Rs → Prop} {bk ct : Ev → Prop} {te ta tb tc tl : TE} {ts tu : TS} {t : TT} {tr : TA} {ka : List Rs → Ev → Prop}
theorem e_varB {i : Nat} {B : Hp} {A : Asn} (h : env[i]? = some (.v (Bb B A))) (q : k (.v A) env) : E c (tVar i) env k := fun S σ H Q R z => by
  obtain ⟨x, g, a⟩ := R.at_ h
  exact ⟨x, g, z S x H _ env q (Same.refl S) R (bb_l a)⟩
structure EOkB (c : Ct so) (P : PEnds) (d : L2.Ends) : Prop where
  nx : ∀ S' env σ H, P.nx env → Rep c S' env σ H → d.nx σ H
  rt : ∀ S' env σ H r x, P.rt r → Rep c S' env σ H → RtOk c c.H0 S' H r x → d.rt x H
  bk : ∀ S' env σ H, P.bk env → Rep c S' env σ H → d.bk σ H
  ct : ∀ S' env σ H, P.ct env → Rep c S' env σ H → d.ct σ H
/-- statements: behind them only what was so at the start is sure to be known still -/
def WB (c : Ct so) (ts : TS) (env : Ev) (P : PEnds) : Prop := ∀ S σ H d, Rep c S env σ H → EOkB c P d → ts d σ H
/-- .. at the start -/
def WB0 (c : Ct so) (ts : TS) (env : Ev) (P : PEnds) : Prop := ∀ σ H d, Rep c c.B env σ H → EOkB c P d → ts d σ H
def Ct.at_ (c : Ct so) (B : Hp) : Ct so := { c with B := B }
theorem W.base {P : PEnds} {X : XE} {Ex : L2.St → XK} (hX : ExOk c X Ex) (h : ∀ B, ExOk (c.at_ B) X Ex → WB0 (c.at_ B) ts env P) : W c ts env P := fun S σ H d R e => by
  refine h S (fun S' env' σ' H' C fs d' g R' er => hX S' env' σ' H' C fs d' g (R.unfrom R').2 er) σ H d R.from ⟨fun S' env' σ' H' p R' => ?_, fun S' env' σ' H' r x p R' w => ?_, fun S' env' σ' H' p R' => ?_, fun S' env' σ' H' p R' => ?_⟩
  · obtain ⟨e1, R2⟩ := R.unfrom R'
    exact e.nx S' env' σ' H' p e1 R2
  · obtain ⟨e1, R2⟩ := R.unfrom R'
    exact e.rt S' env' σ' H' r x p e1 R2 (by cases r <;> exact w)
  · obtain ⟨e1, R2⟩ := R.unfrom R'
    exact e.bk S' env' σ' H' p e1 R2
  · obtain ⟨e1, R2⟩ := R.unfrom R'
    exact e.ct S' env' σ' H' p e1 R2
theorem WB0.bb {P : PEnds} (i : Nat) {A : Asn} (e : env[i]? = some (.v A)) (h : WB0 c ts (env.set i (.v (Bb c.B A))) P) : WB0 c ts env P := fun σ H d R z => by
  obtain ⟨x, h1, h2⟩ := R.at_ e
  have := R.setV i (bb_mk h2 h2)
  rw [set_self h1] at this
  exact h σ H d this z
theorem WB0.of {P : PEnds} (h : WB c ts env P) : WB0 c ts env P := fun σ H d R z => h _ σ H d R z
theorem EOkB.to {P : PEnds} {d : L2.Ends} {S : Hp} (e : EOkB c P d) : EOk c S P d := ⟨fun S' v s H p _ R => e.nx S' v s H p R, fun S' v s H r x p _ R w => e.rt S' v s H r x p R w, fun S' v s H p _ R => e.bk S' v s H p R, fun S' v s H p _ R => e.ct S' v s H p R⟩
theorem WB.of {P : PEnds} (h : W c ts env P) : WB c ts env P := fun S σ H d R e => h S σ H d R e.to
theorem wb_seq (h : WB c ts env ⟨fun env1 => WB c tu env1 ⟨nx, rt, bk, ct⟩, rt, bk, ct⟩) : WB c (tSeq ts tu) env ⟨nx, rt, bk, ct⟩ := fun S σ H d R e => h S σ H _ R ⟨fun S' env1 σ1 H1 p R1 => p S' σ1 H1 d R1 e, e.rt, e.bk, e.ct⟩
/-- the first statement is walked as ever -/
theorem wb_step (h : W c ts env ⟨fun env1 => WB c tu env1 ⟨nx, rt, bk, ct⟩, rt, bk, ct⟩) : WB c (tSeq ts tu) env ⟨nx, rt, bk, ct⟩ := wb_seq (.of h)
theorem WB.wk {P : PEnds} {i : Nat} {A B : Asn} (e : env[i]? = some (.v A)) (q : ∀ S v, A.r S v → B.r S v) (h : WB c ts (env.set i (.v B)) P) : WB c ts env P := fun S σ H d R z => by
  obtain ⟨x, h1, h2⟩ := R.at_ e
  have := R.setV i (q _ _ h2)
  rw [set_self h1] at this
  exact h S σ H d this z
theorem WB.un {P : PEnds} {i : Nat} {s : Sl} (e : env[i]? = some s) (h : WB c ts (env.set i .un) P) : WB c ts env P := fun S σ H d R z => h S σ H d (R.drop e) z
/-- a new list or a tuple among a display's items: that it is new is kept -/
def NewR (K : PySem.W.Frag) (r : Rs) (Bs : List Asn) : Prop := r = .o (Lc Bs) ∨ r = .v (Tu K Bs)
theorem a_consN {Bs : List Asn} (h : E c te env fun r env1 => env1 = env' ∧ NewR K r Bs) (g : EA c tr env' fun rs env2 => ka (.v (Nq c.B K Bs) :: rs) env2) : EA c (tCons te tr) env ka := fun S σ H Q R z => by
  refine h S σ H _ R fun S1 x H1 r env1 g1 e1 R1 q1 => ?_
  obtain ⟨rfl, g1⟩ := g1
  have key : ∃ S2, Same S1 S2 ∧ Rep c S2 env1 σ H1 ∧ (Nq c.B K Bs).r S2 x := by
    rcases g1 with rfl | rfl
    · obtain ⟨a, ob, rfl, h1, h2, h3, h4, hg, h5⟩ := q1
      have e := Vb.same_new (o := ob) h3
      obtain ⟨xs, rfl, h2⟩ := h2
      refine ⟨_, e, R1.share h1 h3 h4 hg h5, a, xs, rfl, .inl ⟨upd_same, ?_⟩, h2.up e⟩
      cases y : c.B a with
      | none => rfl
      | some o => have := R1.bs a o y; rw [h3] at this; cases this
    · obtain ⟨a, xs, rfl, h1, h2⟩ := q1
      exact ⟨S1, Same.refl _, R1, a, xs, rfl, .inr h1, h2⟩
  obtain ⟨S2, e2, R2, q2⟩ := key
  exact g S2 σ H1 _ R2 fun S3 xs H3 rs env3 g3 e3 R3 q3 => z S3 (x :: xs) H3 _ env3 g3 (e1.trans (e2.trans e3)) R3 ⟨⟨trivial, (Nq c.B K Bs).up e3 q2⟩, q3⟩
/-! ### forgetting lists, to spoil them -/
/-- the lists of plain things that B doesn't have are forgotten: D tells them -/
structure Fgt (B S S' : Hp) (D : Addr → Prop) (n : Nat) : Prop where
  bs : Same B S'
  le : Same S' S
  nl : ∀ b o, S b = some o → NLk o → S' b = some o
  d : ∀ a, D a ↔ B a = none ∧ ∃ xs, S a = some (.lst xs) ∧ xs.length ≤ n ∧ ∀ x ∈ xs, Fl x
  k : ∀ a, ¬ D a → S' a = S a
  no : ∀ a, D a → S' a = none
open Classical in
theorem fgt_ex (B S : Hp) (h : Same B S) (n : Nat) : ∃ S' D, Fgt B S S' D n := by
  refine ⟨fun a => if B a = none ∧ ∃ xs, S a = some (.lst xs) ∧ xs.length ≤ n ∧ ∀ x ∈ xs, Fl x then none else S a, fun a => B a = none ∧ ∃ xs, S a = some (.lst xs) ∧ xs.length ≤ n ∧ ∀ x ∈ xs, Fl x, ⟨fun b o g => ?_, fun b o g => ?_, fun b o g l => ?_, fun a => Iff.rfl, fun a g => if_neg g, fun a g => if_pos g⟩⟩
  · rw [if_neg fun z => by rw [g] at z; cases z.1]
    exact h b o g
  · by_cases z : B b = none ∧ ∃ xs, S b = some (.lst xs) ∧ xs.length ≤ n ∧ ∀ x ∈ xs, Fl x
    · rw [if_pos z] at g; cases g
    · rw [if_neg z] at g; exact g
  · rw [if_neg fun z => by
      obtain ⟨_, xs, h1, _⟩ := z
      rw [g] at h1
      cases h1
      exact l]
    exact g
/-- a list that has been forgotten, or a tuple of plain things -/
def Ls (D : Addr → Prop) : Asn := ⟨fun S v => ∃ a, v = .ref a ∧ (D a ∨ ∃ xs, S a = some (.tup xs) ∧ ∀ x ∈ xs, Fl x), fun e ⟨a, h, g⟩ => ⟨a, h, g.imp id fun ⟨xs, h1, h2⟩ => ⟨xs, e _ _ h1, h2⟩⟩⟩
def Kp (B : Hp) (D : Addr → Prop) (n : Nat) (A A' : Asn) : Prop := ∀ S S' x, Fgt B S S' D n → A.r S x → A'.r S' x
theorem kp_nl {B : Hp} {D : Addr → Prop} {n : Nat} {A : Asn} [h : NL A] : Kp B D n A A := fun S S' x f g => h.nl f.nl g
theorem kp_bb {B : Hp} {D : Addr → Prop} {n : Nat} {A : Asn} : Kp B D n (Bb B A) (Bb B A) := fun S S' x f g => bb_mk (A.up f.bs (bb_b g)) (bb_b g)
theorem kp_nq {B : Hp} {D : Addr → Prop} {n : Nat} {As : List Asn} (h : Fls As) (l : As.length ≤ n) : Kp B D n (Nq B K As) (Ls D) := fun S S' x f ⟨a, xs, e, g, q⟩ => ⟨a, e, g.imp (fun z => (f.d a).mpr ⟨z.2, xs, z.1, by rw [← q.len]; exact l, h S xs q⟩) fun z => ⟨xs, f.nl _ _ z trivial, h S xs q⟩⟩
theorem kp_any {B : Hp} {D : Addr → Prop} {n : Nat} {A : Asn} : Kp B D n A Any := fun _ _ _ _ _ => trivial
inductive Kpl (B : Hp) (D : Addr → Prop) (n : Nat) : List Asn → List Asn → Prop
  | nil : Kpl B D n [] []
  | cons {A A' : Asn} {As As' : List Asn} : Kp B D n A A' → Kpl B D n As As' → Kpl B D n (A :: As) (A' :: As')
theorem Kpl.all {B : Hp} {D : Addr → Prop} {n : Nat} {As As' : List Asn} (h : Kpl B D n As As') {S S' : Hp} (f : Fgt B S S' D n) : ∀ {xs : List V}, All S As xs → All S' As' xs := by
  induction h with
  | nil => intro xs g; cases xs with | nil => exact trivial | cons => exact g.elim
  | cons a _ ih => intro xs g; cases xs with | nil => exact g.elim | cons x xs => exact ⟨a S S' x f g.1, ih g.2⟩
def KpS (B : Hp) (D : Addr → Prop) (n : Nat) : Sl → Sl → Prop
  | _, .un => True
  | .v A, .v A' => Kp B D n A A'
  | .o C, .o C' => ∀ S S' a o, Fgt B S S' D n → C.r S a o → C'.r S' a o
  | _, _ => False
theorem kps_un {B : Hp} {D : Addr → Prop} {n : Nat} {s : Sl} : KpS B D n s .un := by cases s <;> trivial
theorem kps_v {B : Hp} {D : Addr → Prop} {n : Nat} {A A' : Asn} (h : Kp B D n A A') : KpS B D n (.v A) (.v A') := h
theorem kps_nl {B : Hp} {D : Addr → Prop} {n : Nat} {C : Cn} [h : NLC C] : KpS B D n (.o C) (.o C) := fun S S' a o f g => h.nl f.nl g
theorem kps_l {B : Hp} {D : Addr → Prop} {n : Nat} {As As' : List Asn} (h : Kpl B D n As As') : KpS B D n (.o (Lc As)) (.o (Lc As')) := fun S S' a o f ⟨xs, e, g⟩ => ⟨xs, e, h.all f g⟩
inductive Kps (B : Hp) (D : Addr → Prop) (n : Nat) : Ev → Ev → Prop
  | nil : Kps B D n [] []
  | cons {s s' : Sl} {e e' : Ev} : KpS B D n s s' → Kps B D n e e' → Kps B D n (s :: e) (s' :: e')
theorem Kps.at_ {B : Hp} {D : Addr → Prop} {n : Nat} {e e' : Ev} (h : Kps B D n e e') : e.length = e'.length ∧ ∀ (i : Nat) (s' : Sl), e'[i]? = some s' → ∃ s : Sl, e[i]? = some s ∧ KpS B D n s s' := by
  induction h with
  | nil => exact ⟨rfl, fun i s' g => by simp at g⟩
  | cons a _ ih =>
    refine ⟨by rw [List.length_cons, List.length_cons, ih.1], fun i s' g => ?_⟩
    cases i with
    | zero => cases Option.some.inj g; exact ⟨_, rfl, a⟩
    | succ i => exact ih.2 i s' (by simpa using g)
structure Lo (c : Ct so) (D : Addr → Prop) (n : Nat) (S : Hp) (env : Ev) (σ : L2.St) (H : Hp) : Prop where
  l : ∀ a, D a → ∃ xs, H a = some (.lst xs) ∧ xs.length ≤ n ∧ ∀ x ∈ xs, Fl x
  n : ∀ a, D a → S a = none ∧ c.H0 a = none ∧ c.G a = none ∧ ∀ i, ¬ Own env σ i a
theorem Rep.forget {S S' H : Hp} {σ : L2.St} {D : Addr → Prop} {n : Nat} (R : Rep c S env σ H) (f : Fgt c.B S S' D n) (h : Kps c.B D n env env') : Rep c S' env' σ H ∧ Lo c D n S' env' σ H := by
  obtain ⟨hl, hk⟩ := h.at_
  have own : ∀ i a, Own env' σ i a → Own env σ i a := fun i a ⟨⟨C, h1⟩, h2⟩ => by
    obtain ⟨s, g1, g2⟩ := hk i _ h1
    cases s with
    | o C0 => exact ⟨⟨C0, g1⟩, h2⟩
    | v A => exact g2.elim
    | un => exact g2.elim
  have sn : ∀ a, S a = none → S' a = none := fun a z => by
    cases y : S' a with
    | none => rfl
    | some o => have := f.le a o y; rw [z] at this; cases this
  refine ⟨⟨R.frm, f.bs, f.le.trans R.sh, fun b o g => R.nw b o (f.le b o g), fun st z => sn st (R.sf st z), hl ▸ R.len, R.s0, fun i s g => ?_, fun i j a g1 g2 => R.dj i j a (own i a g1) (own j a g2), fun i a g => ⟨(R.fr i a (own i a g)).1, sn a (R.fr i a (own i a g)).2⟩, fun b o g => ?_⟩, fun a g => ?_, fun a g => ?_⟩
  · obtain ⟨s0, g1, g2⟩ := hk i s g
    obtain ⟨u, g3, g4⟩ := R.sl i s0 g1
    refine ⟨u, g3, ?_⟩
    cases s with
    | un => exact trivial
    | v A' =>
      cases s0 with
      | v A => obtain ⟨x, e, y⟩ := g4; exact ⟨x, e, g2 S S' x f y⟩
      | o C => exact g2.elim
      | un => exact g2.elim
    | o C' =>
      cases s0 with
      | o C => obtain ⟨a, ob, e, y1, y2⟩ := g4; exact ⟨a, ob, e, y1, g2 S S' a ob f y2⟩
      | v A => exact g2.elim
      | un => exact g2.elim
  · obtain ⟨x1, x2, x3, x4, x5⟩ := R.gh b o g
    exact ⟨x1, x2, sn b x3, x4, fun i y => x5 i (own i b y)⟩
  · obtain ⟨_, xs, h1, h2, h3⟩ := (f.d a).mp g
    exact ⟨xs, R.sh _ _ h1, h2, h3⟩
  · obtain ⟨hb, xs, h1, h2, h3⟩ := (f.d a).mp g
    refine ⟨f.no a g, ?_, ?_, fun i y => ?_⟩
    · rcases R.nw a _ h1 with z | z | z
      · rw [hb] at z; cases z
      · exact z
      · exact z.elim
    · cases y : c.G a with
      | none => rfl
      | some o =>
        have := (R.gh a o y).2.2.1
        rw [h1] at this
        cases this
    · have := (R.fr i a (own i a y)).2
      rw [h1] at this
      cases this
/-- an object that nobody here knows is changed -/
theorem Rep.touch {S H : Hp} {σ : L2.St} {a : Addr} {ob : HO} (R : Rep c S env σ H) (hs : S a = none) (h0 : c.H0 a = none) (hg : c.G a = none) (no : ∀ i, ¬ Own env σ i a) : Rep c S env σ (upd H a ob) := by
  have ne : ∀ b o, c.H0 b = some o → b ≠ a := fun b o g z => by rw [z, h0] at g; cases g
  refine ⟨⟨fun b o n g => ?_, fun st z => ?_, fun st z l r g => ?_⟩, R.bs, Vb.same_mut R.sh hs, R.nw, R.sf, R.len, R.s0, fun j t g => ?_, R.dj, R.fr, fun b o g => ?_⟩
  · rw [upd_ne (ne b o g)]; exact R.frm.k b o n g
  · subst z
    exact (R.s0 st rfl).mut h0 R.frm.fr (R.frm.s st rfl)
  · obtain ⟨r', g'⟩ := R.frm.hd st z l r g
    exact ⟨r', by rw [upd_ne (ne _ _ g)]; exact g'⟩
  · obtain ⟨u, g1, g2⟩ := R.sl j t g
    refine ⟨u, g1, g2.up (Same.refl S) fun C2 b e1 e2 => ?_⟩
    subst e1 e2
    exact upd_ne fun y => no j (y ▸ ⟨⟨C2, g⟩, g1⟩)
  · obtain ⟨x1, x2, x3, xf, x4⟩ := R.gh b o g
    refine ⟨?_, x2, x3, xf, x4⟩
    rw [upd_ne fun z => by rw [z, hg] at g; cases g]
    exact x1
/-- while lists are spoilt -/
def WS (c : Ct so) (D : Addr → Prop) (n : Nat) (ts : TS) (env : Ev) (P : PEnds) : Prop := ∀ S σ H d, Rep c S env σ H → Lo c D n S env σ H → EOkB c P d → ts d σ H
theorem ws_in {P : PEnds} (n : Nat) (env' : (Addr → Prop) → Ev) (h : ∀ D, Kps c.B D n env (env' D)) (q : ∀ D, WS c D n ts (env' D) P) : WB c ts env P := fun S σ H d R e => by
  obtain ⟨S', D, f⟩ := fgt_ex c.B S R.bs n
  obtain ⟨R', l⟩ := R.forget f (h D)
  exact q D S' σ H d R' l e
theorem ws_out {P : PEnds} {D : Addr → Prop} {n : Nat} (h : WB c ts env P) : WS c D n ts env P := fun S σ H d R _ e => h S σ H d R e
/-- _law_spoil_list(rows[z]) -/
theorem ws_spoil {D : Addr → Prop} {n i : Nat} {z : Int} {As : List Asn} {Ex : L2.St → XK} (e : env[i]? = some (.o (Lc As))) (hz : atI As z = some (Ls D)) (hn : n ≤ 1000000) (h : WS c D (n + 1) tu env ⟨nx, rt, bk, ct⟩) : WS c D n (tSeq (tDrop (tCallS (spSpoil K) Ex (tCons (tOp (rIxL K) (tVar i) (tC (.int z))) tNil))) tu) env ⟨nx, rt, bk, ct⟩ := fun S σ H d R l w => by
  obtain ⟨b, ob, ow, h1, h2, ys, rfl, g⟩ := R.own e
  obtain ⟨v, g1, a, rfl, g2⟩ := g.atI hz
  refine Vb.r_seq (Vb.r_drop (Vb.r_callS (Vb.r_cons (Vb.r_op (Vb.r_var h1 (Vb.r_c (Vb.r_ixL (Vb.sq_of h2) g1 (Vb.r_nil ?_))))))))
  rcases g2 with hD | ⟨xs, h3, h4⟩
  · obtain ⟨xs, h3, h4, h5⟩ := l.l a hD
    obtain ⟨hs, h0, hg, hno⟩ := l.n a hD
    obtain ⟨ds, d1, d2⟩ := fl_dp (K := K) (H := H) h5
    refine ⟨a, rfl, .inl ⟨xs, ds, h3, by omega, d1, d2, ?_⟩⟩
    have u : ∀ o1 o2, upd (upd H a o1) a o2 = upd H a o2 := fun o1 o2 => by
      funext b
      by_cases e : b = a
      · rw [e, upd_same, upd_same]
      · rw [upd_ne e, upd_ne e, upd_ne e]
    rw [u]
    refine h S σ _ d (R.touch hs h0 hg hno) ⟨fun b hb => ?_, l.n⟩ w
    by_cases e : b = a
    · subst e
      refine ⟨_, upd_same, by rw [List.length_append, List.length_reverse]; show _ + 1 ≤ _; omega, fun x m => ?_⟩
      rcases List.mem_append.mp m with m | m
      · exact h5 x (List.mem_reverse.mp m)
      · rw [List.mem_singleton.mp m]; exact .non
    · obtain ⟨xs, k1, k2, k3⟩ := l.l b hb
      exact ⟨xs, by rw [upd_ne e]; exact k1, by omega, k3⟩
  · obtain ⟨ds, d1, _⟩ := fl_dp (K := K) (H := H) h4
    refine ⟨a, rfl, .inr (.inl ⟨ds, .tup (Vb.sqd R.sh h3) d1, ?_⟩)⟩
    exact h S σ H d R ⟨fun b hb => (l.l b hb).elim fun xs ⟨k1, k2, k3⟩ => ⟨xs, k1, by omega, k3⟩, l.n⟩ w
end
end Pu
namespace Vb
open PySem PySem.Spec PyProof.Rows L2
/-! ### a tuple of texts that the top has written -/
structure TcS (K : PySem.W.Frag) (a : Addr) (ss : List Str) : Prop where
  h : ∃ (o : Obj) (its : Array Value) (n : Nat), List.lookup a K = some o ∧ o.cls = .type "tuple" ∧ o.dict = none ∧ o.data = .seq its n ∧ its.size ≤ sizeLine ∧ Vals (ss.map V.str) its.toList
theorem TcS.sqt {K : PySem.W.Frag} {H : Hp} {a : Addr} {ss : List Str} (t : TcS K a ss) : SqT K H a (ss.map V.str) := by
  obtain ⟨o, its, n, h1, h2, _, h3, h4, h5⟩ := t.h
  exact .inr ⟨o, its, n, h1, h2, h3, h4, h5⟩
theorem tcs_mk2 {K : PySem.W.Frag} {a : Addr} {i1 i2 : Str} {t1 t2 : Tok} {n : Nat} {sl : Array (Option Value)} (l : K.lookup a = some ⟨.type "tuple", none, .seq #[.str i1 t1, .str i2 t2] n, sl⟩) : TcS K a [i1, i2] := ⟨_, _, _, l, rfl, rfl, rfl, (by show _ ≤ 16777216; exact Nat.le_of_ble_eq_true rfl), .cons ⟨_, rfl⟩ (.cons ⟨_, rfl⟩ .nil)⟩
theorem inV_strS {x : Str} : ∀ {ss : List Str}, inV (.str x) (ss.map V.str) = decide (x ∈ ss)
  | [] => by simp [inV]
  | s :: ss => by
    have ih := inV_strS (x := x) (ss := ss)
    unfold inV at ih ⊢
    rw [List.map_cons, List.any_cons, ih]
    show (s == x || _) = _
    by_cases e : x = s
    · subst e
      simp
    · have e' : ¬ s = x := fun z => e z.symm
      simp [e, e']
section
variable {K : PySem.W.Frag} {H : Hp} {Q : VK}
theorem r_inSs {neg : Bool} {a : Addr} {x : Str} {ss : List Str} (h : SqL K H a (ss.map V.str) ∨ SqT K H a (ss.map V.str)) (q : Q (.bl (if neg then !decide (x ∈ ss) else decide (x ∈ ss))) H) : rIn K neg (.str x) (.ref a) H Q := by
  refine ⟨a, _, rfl, h, rfl, ?_, ?_⟩
  · rw [List.all_eq_true]
    intro v m
    obtain ⟨y, _, rfl⟩ := List.mem_map.mp m
    rfl
  · rw [inV_strS]
    exact q
theorem r_gT3 {σ : L2.St} {C : L2.St → Hp → Prop} {T : Addr} {u v w : V} {i j l : Nat} (h : SqT K H T [u, v, w]) (q : C (((σ.set i (some u)).set j (some v)).set l (some w)) H) : gTup K 3 (gCons (gName i) (gCons (gName j) (gCons (gName l) gNil))) (.ref T) σ H C := ⟨T, _, rfl, h, rfl, u, _, rfl, v, _, rfl, w, _, rfl, rfl, q⟩
end
end Vb
namespace Pu
open PySem PySem.Spec PyProof.Rows L2
section
variable {so : Option Addr} {c : Ct so} {K K' : PySem.W.Frag} {env : Ev} {k : Rs → Ev → Prop}
theorem r_inSC {neg : Bool} {a : Addr} {x : Str} {ss : List Str} (e0 : K' = K) (h : Vb.TcS K a ss) (q : k (.v (Bo (if neg then !decide (x ∈ ss) else decide (x ∈ ss)))) env) : R2 c (rIn K' neg) (.v (Sr x)) (.v (Rf a)) env k := fun S σ H y z Q R _ _ qy qz w => by
  subst e0
  cases (show y = .str x from qy)
  cases (show z = .ref a from qz)
  exact Vb.r_inSs (.inr h.sqt) (w S _ H _ env q (Same.refl S) R rfl)
theorem r_inSCf {a : Addr} {x : Str} {ss : List Str} (e0 : K' = K) (h : Vb.TcS K a ss) (q : k (.v (Bo (decide (x ∈ ss)))) env) : R2 c (rIn K' false) (.v (Sr x)) (.v (Rf a)) env k := r_inSC e0 h (by rw [if_neg (by decide)]; exact q)
theorem g_threeK {i j l : Nat} {A B C : Asn} {kg : Ev → Prop} (e0 : K' = K) (h : kg (((env.set i (.v A)).set j (.v B)).set l (.v C))) : G c (gTup K' 3 (gCons (gName i) (gCons (gName j) (gCons (gName l) gNil)))) (.v (Tu K [A, B, C])) env kg := fun S σ H x Q R q z => by
  subst e0
  obtain ⟨a, xs, rfl, s, g⟩ := q
  obtain _ | ⟨x, _ | ⟨y, _ | ⟨w, _ | ⟨w2, xs⟩⟩⟩⟩ := xs
  · exact g.elim
  · exact g.2.elim
  · exact g.2.2.elim
  · exact Vb.r_gT3 (Vb.sqd R.sh s) (z S _ H _ h (Same.refl S) (((R.setV i g.1).setV j g.2.1).setV l g.2.2.1))
  · exact g.2.2.2.elim
end
end Pu
namespace K
open PySem PySem.Spec PyProof.Rows L2
def topS (i : Nat) : Stmt := PySem.Challenge.pw_sumtalk_k73_circuit_values.main.body.getD i (.Pass ⟨0, 0, 0, 0⟩)
abbrev s__wall : Stmt := topS 0
abbrev s_NotPrime___init__ : Stmt := inClass (topS 3) 0
abbrev s_NotInField___init__ : Stmt := inClass (topS 4) 0
abbrev s_is_whole : Stmt := topS 10
abbrev s_is_number : Stmt := topS 11
abbrev s_check_number : Stmt := topS 12
abbrev s_check_numbers : Stmt := topS 13
abbrev s_check_range : Stmt := topS 14
abbrev s_check_at_most : Stmt := topS 15
abbrev s_check_length : Stmt := topS 16
abbrev s_is_prime : Stmt := topS 20
abbrev s_check_prime : Stmt := topS 21
abbrev s_is_width : Stmt := topS 29
abbrev s_is_kind : Stmt := topS 30
abbrev s_is_gate : Stmt := topS 31
abbrev s_Circuit___init__ : Stmt := inClass (topS 32) 0
abbrev s_Circuit___eq__ : Stmt := inClass (topS 32) 1
abbrev s_Circuit_depth : Stmt := inClass (topS 32) 2
abbrev s_Circuit_bits : Stmt := inClass (topS 32) 3
abbrev s_Circuit_text : Stmt := inClass (topS 32) 4
abbrev s_gate_value : Stmt := topS 33
abbrev s_check_inputs : Stmt := topS 34
abbrev s_circuit_values : Stmt := topS 35
abbrev s__law_mix : Stmt := topS 37
abbrev s__law_store : Stmt := topS 38
abbrev s__law_take : Stmt := topS 39
abbrev s__law_edge : Stmt := topS 40
abbrev s__law_chance : Stmt := topS 41
abbrev s__law_pick : Stmt := topS 42
abbrev s__law_other_kind : Stmt := topS 43
abbrev s__law_bad_integer : Stmt := topS 44
abbrev s__law_primes : Stmt := topS 45
abbrev s__law_prime : Stmt := topS 46
abbrev s__law_number : Stmt := topS 47
abbrev s__law_numbers : Stmt := topS 48
abbrev s__law_row : Stmt := topS 49
abbrev s__law_bad_number : Stmt := topS 50
abbrev s__law_bad_row : Stmt := topS 51
abbrev s__law_bad_prime : Stmt := topS 52
abbrev s__law_same : Stmt := topS 53
abbrev s__law_copy : Stmt := topS 54
abbrev s__law_spoil_list : Stmt := topS 55
abbrev s__law_gates : Stmt := topS 56
abbrev s__law_circuit : Stmt := topS 57
abbrev s__law_widths : Stmt := topS 58
abbrev s__law_mixed : Stmt := topS 59
abbrev s__law_class_names : Stmt := topS 60
abbrev s__law_told : Stmt := topS 61
abbrev s__law_bits_told : Stmt := topS 62
abbrev s__law_made : Stmt := topS 63
abbrev s__law_parts_are : Stmt := topS 64
abbrev s__law_fits : Stmt := topS 65
abbrev s__law_values_are : Stmt := topS 66
abbrev s__law_refused : Stmt := topS 67
abbrev s_law : Stmt := topS 68
/-! what the top has written -/
structure Txt (K : PySem.W.Frag) (mg : Str → Option Value) where
  C_TalkError : Addr
  x_TalkError : Vb.Xn K mg "TalkError" C_TalkError
  C_NotPrime : Addr
  I_NotPrime : Addr
  i_NotPrime : PySem.Lowvalue.LowTxt K mg "NotPrime" "NotPrime.__init__" C_NotPrime I_NotPrime
  C_NotInField : Addr
  I_NotInField : Addr
  i_NotInField : PySem.Lowvalue.LowTxt K mg "NotInField" "NotInField.__init__" C_NotInField I_NotInField
  C_WrongPlaces : Addr
  x_WrongPlaces : Vb.Xn K mg "WrongPlaces" C_WrongPlaces
  C_OutOfRange : Addr
  x_OutOfRange : Vb.Xn K mg "OutOfRange" C_OutOfRange
  C_TooLarge : Addr
  x_TooLarge : Vb.Xn K mg "TooLarge" C_TooLarge
  C_NotCircuit : Addr
  x_NotCircuit : Vb.Xn K mg "NotCircuit" C_NotCircuit
  xk_NotPrime : Vb.Xk K C_NotPrime
  xk_NotInField : Vb.Xk K C_NotInField
  xk_TalkError : Vb.Xk K C_TalkError
  xk_OutOfRange : Vb.Xk K C_OutOfRange
  xk_TooLarge : Vb.Xk K C_TooLarge
  xk_WrongPlaces : Vb.Xk K C_WrongPlaces
  xk_NotCircuit : Vb.Xk K C_NotCircuit
  k_NotInField_NotPrime : PySem.W.kitOne K (.ref C_NotInField) (.ref C_NotPrime) = some false
  k_NotInField_WrongPlaces : PySem.W.kitOne K (.ref C_NotInField) (.ref C_WrongPlaces) = some false
  k_NotInField_NotInField : PySem.W.kitOne K (.ref C_NotInField) (.ref C_NotInField) = some true
  k_NotInField_OutOfRange : PySem.W.kitOne K (.ref C_NotInField) (.ref C_OutOfRange) = some false
  k_NotInField_NotCircuit : PySem.W.kitOne K (.ref C_NotInField) (.ref C_NotCircuit) = some false
  k_NotInField_TooLarge : PySem.W.kitOne K (.ref C_NotInField) (.ref C_TooLarge) = some false
  k_OutOfRange_NotPrime : PySem.W.kitOne K (.ref C_OutOfRange) (.ref C_NotPrime) = some false
  k_OutOfRange_WrongPlaces : PySem.W.kitOne K (.ref C_OutOfRange) (.ref C_WrongPlaces) = some false
  k_OutOfRange_NotInField : PySem.W.kitOne K (.ref C_OutOfRange) (.ref C_NotInField) = some false
  k_OutOfRange_OutOfRange : PySem.W.kitOne K (.ref C_OutOfRange) (.ref C_OutOfRange) = some true
  k_OutOfRange_NotCircuit : PySem.W.kitOne K (.ref C_OutOfRange) (.ref C_NotCircuit) = some false
  k_OutOfRange_TooLarge : PySem.W.kitOne K (.ref C_OutOfRange) (.ref C_TooLarge) = some false
  k_TooLarge_NotPrime : PySem.W.kitOne K (.ref C_TooLarge) (.ref C_NotPrime) = some false
  k_TooLarge_WrongPlaces : PySem.W.kitOne K (.ref C_TooLarge) (.ref C_WrongPlaces) = some false
  k_TooLarge_NotInField : PySem.W.kitOne K (.ref C_TooLarge) (.ref C_NotInField) = some false
  k_TooLarge_OutOfRange : PySem.W.kitOne K (.ref C_TooLarge) (.ref C_OutOfRange) = some false
  k_TooLarge_NotCircuit : PySem.W.kitOne K (.ref C_TooLarge) (.ref C_NotCircuit) = some false
  k_TooLarge_TooLarge : PySem.W.kitOne K (.ref C_TooLarge) (.ref C_TooLarge) = some true
  k_WrongPlaces_NotPrime : PySem.W.kitOne K (.ref C_WrongPlaces) (.ref C_NotPrime) = some false
  k_WrongPlaces_WrongPlaces : PySem.W.kitOne K (.ref C_WrongPlaces) (.ref C_WrongPlaces) = some true
  k_WrongPlaces_NotInField : PySem.W.kitOne K (.ref C_WrongPlaces) (.ref C_NotInField) = some false
  k_WrongPlaces_OutOfRange : PySem.W.kitOne K (.ref C_WrongPlaces) (.ref C_OutOfRange) = some false
  k_WrongPlaces_NotCircuit : PySem.W.kitOne K (.ref C_WrongPlaces) (.ref C_NotCircuit) = some false
  k_WrongPlaces_TooLarge : PySem.W.kitOne K (.ref C_WrongPlaces) (.ref C_TooLarge) = some false
  k_NotPrime_NotPrime : PySem.W.kitOne K (.ref C_NotPrime) (.ref C_NotPrime) = some true
  k_NotPrime_WrongPlaces : PySem.W.kitOne K (.ref C_NotPrime) (.ref C_WrongPlaces) = some false
  k_NotPrime_NotInField : PySem.W.kitOne K (.ref C_NotPrime) (.ref C_NotInField) = some false
  k_NotPrime_OutOfRange : PySem.W.kitOne K (.ref C_NotPrime) (.ref C_OutOfRange) = some false
  k_NotPrime_NotCircuit : PySem.W.kitOne K (.ref C_NotPrime) (.ref C_NotCircuit) = some false
  k_NotPrime_TooLarge : PySem.W.kitOne K (.ref C_NotPrime) (.ref C_TooLarge) = some false
  k_NotCircuit_NotPrime : PySem.W.kitOne K (.ref C_NotCircuit) (.ref C_NotPrime) = some false
  k_NotCircuit_WrongPlaces : PySem.W.kitOne K (.ref C_NotCircuit) (.ref C_WrongPlaces) = some false
  k_NotCircuit_NotInField : PySem.W.kitOne K (.ref C_NotCircuit) (.ref C_NotInField) = some false
  k_NotCircuit_OutOfRange : PySem.W.kitOne K (.ref C_NotCircuit) (.ref C_OutOfRange) = some false
  k_NotCircuit_NotCircuit : PySem.W.kitOne K (.ref C_NotCircuit) (.ref C_NotCircuit) = some true
  k_NotCircuit_TooLarge : PySem.W.kitOne K (.ref C_NotCircuit) (.ref C_TooLarge) = some false
  f__wall : Addr
  fd__wall : FuncData
  d__wall : Vb.Dn K mg "_wall" s__wall ["k"] f__wall fd__wall
  f_is_whole : Addr
  fd_is_whole : FuncData
  d_is_whole : Vb.Dn K mg "is_whole" s_is_whole ["value"] f_is_whole fd_is_whole
  f_is_number : Addr
  fd_is_number : FuncData
  d_is_number : Vb.Dn K mg "is_number" s_is_number ["prime", "value"] f_is_number fd_is_number
  f_check_number : Addr
  fd_check_number : FuncData
  d_check_number : Vb.Dn K mg "check_number" s_check_number ["prime", "value"] f_check_number fd_check_number
  f_check_numbers : Addr
  fd_check_numbers : FuncData
  d_check_numbers : Vb.Dn K mg "check_numbers" s_check_numbers ["prime", "numbers"] f_check_numbers fd_check_numbers
  f_check_range : Addr
  fd_check_range : FuncData
  d_check_range : Vb.Dn K mg "check_range" s_check_range ["value", "least", "most"] f_check_range fd_check_range
  f_check_at_most : Addr
  fd_check_at_most : FuncData
  d_check_at_most : Vb.Dn K mg "check_at_most" s_check_at_most ["row", "most"] f_check_at_most fd_check_at_most
  f_check_length : Addr
  fd_check_length : FuncData
  d_check_length : Vb.Dn K mg "check_length" s_check_length ["row", "length"] f_check_length fd_check_length
  f_is_prime : Addr
  fd_is_prime : FuncData
  d_is_prime : Vb.Dn K mg "is_prime" s_is_prime ["value"] f_is_prime fd_is_prime
  f_check_prime : Addr
  fd_check_prime : FuncData
  d_check_prime : Vb.Dn K mg "check_prime" s_check_prime ["prime"] f_check_prime fd_check_prime
  f_is_width : Addr
  fd_is_width : FuncData
  d_is_width : Vb.Dn K mg "is_width" s_is_width ["value"] f_is_width fd_is_width
  f_is_kind : Addr
  fd_is_kind : FuncData
  d_is_kind : Vb.Dn K mg "is_kind" s_is_kind ["value"] f_is_kind fd_is_kind
  f_is_gate : Addr
  fd_is_gate : FuncData
  d_is_gate : Vb.Dn K mg "is_gate" s_is_gate ["gate", "below"] f_is_gate fd_is_gate
  f_gate_value : Addr
  fd_gate_value : FuncData
  d_gate_value : Vb.Dn K mg "gate_value" s_gate_value ["prime", "gate", "below"] f_gate_value fd_gate_value
  f_check_inputs : Addr
  fd_check_inputs : FuncData
  d_check_inputs : Vb.Dn K mg "check_inputs" s_check_inputs ["circuit", "prime", "inputs"] f_check_inputs fd_check_inputs
  f_circuit_values : Addr
  fd_circuit_values : FuncData
  d_circuit_values : Vb.Dn K mg "circuit_values" s_circuit_values ["circuit", "prime", "inputs"] f_circuit_values fd_circuit_values
  f__law_mix : Addr
  fd__law_mix : FuncData
  d__law_mix : Vb.Dn K mg "_law_mix" s__law_mix ["number", "turn"] f__law_mix fd__law_mix
  f__law_store : Addr
  fd__law_store : FuncData
  d__law_store : Vb.Dn K mg "_law_store" s__law_store ["script"] f__law_store fd__law_store
  f__law_take : Addr
  fd__law_take : FuncData
  d__law_take : Vb.Dn K mg "_law_take" s__law_take ["store", "many"] f__law_take fd__law_take
  f__law_edge : Addr
  fd__law_edge : FuncData
  d__law_edge : Vb.Dn K mg "_law_edge" s__law_edge ["store", "low", "high"] f__law_edge fd__law_edge
  f__law_chance : Addr
  fd__law_chance : FuncData
  d__law_chance : Vb.Dn K mg "_law_chance" s__law_chance ["store", "part"] f__law_chance fd__law_chance
  f__law_pick : Addr
  fd__law_pick : FuncData
  d__law_pick : Vb.Dn K mg "_law_pick" s__law_pick ["store", "row"] f__law_pick fd__law_pick
  f__law_other_kind : Addr
  fd__law_other_kind : FuncData
  d__law_other_kind : Vb.Dn K mg "_law_other_kind" s__law_other_kind ["store"] f__law_other_kind fd__law_other_kind
  f__law_bad_integer : Addr
  fd__law_bad_integer : FuncData
  d__law_bad_integer : Vb.Dn K mg "_law_bad_integer" s__law_bad_integer ["store", "low", "high"] f__law_bad_integer fd__law_bad_integer
  f__law_primes : Addr
  fd__law_primes : FuncData
  d__law_primes : Vb.Dn K mg "_law_primes" s__law_primes ["limit"] f__law_primes fd__law_primes
  f__law_prime : Addr
  fd__law_prime : FuncData
  d__law_prime : Vb.Dn K mg "_law_prime" s__law_prime ["store"] f__law_prime fd__law_prime
  f__law_number : Addr
  fd__law_number : FuncData
  d__law_number : Vb.Dn K mg "_law_number" s__law_number ["store", "prime"] f__law_number fd__law_number
  f__law_numbers : Addr
  fd__law_numbers : FuncData
  d__law_numbers : Vb.Dn K mg "_law_numbers" s__law_numbers ["store", "prime", "size"] f__law_numbers fd__law_numbers
  f__law_row : Addr
  fd__law_row : FuncData
  d__law_row : Vb.Dn K mg "_law_row" s__law_row ["store", "row"] f__law_row fd__law_row
  f__law_bad_number : Addr
  fd__law_bad_number : FuncData
  d__law_bad_number : Vb.Dn K mg "_law_bad_number" s__law_bad_number ["store", "prime"] f__law_bad_number fd__law_bad_number
  f__law_bad_row : Addr
  fd__law_bad_row : FuncData
  d__law_bad_row : Vb.Dn K mg "_law_bad_row" s__law_bad_row ["store", "prime", "row"] f__law_bad_row fd__law_bad_row
  f__law_bad_prime : Addr
  fd__law_bad_prime : FuncData
  d__law_bad_prime : Vb.Dn K mg "_law_bad_prime" s__law_bad_prime ["store"] f__law_bad_prime fd__law_bad_prime
  f__law_same : Addr
  fd__law_same : FuncData
  d__law_same : Vb.Dn K mg "_law_same" s__law_same ["actual", "expected"] f__law_same fd__law_same
  f__law_copy : Addr
  fd__law_copy : FuncData
  d__law_copy : Vb.Dn K mg "_law_copy" s__law_copy ["value"] f__law_copy fd__law_copy
  f__law_spoil_list : Addr
  fd__law_spoil_list : FuncData
  d__law_spoil_list : Vb.Dn K mg "_law_spoil_list" s__law_spoil_list ["row"] f__law_spoil_list fd__law_spoil_list
  f__law_gates : Addr
  fd__law_gates : FuncData
  d__law_gates : Vb.Dn K mg "_law_gates" s__law_gates ["store", "many", "below"] f__law_gates fd__law_gates
  f__law_circuit : Addr
  fd__law_circuit : FuncData
  d__law_circuit : Vb.Dn K mg "_law_circuit" s__law_circuit ["store", "depth", "widest"] f__law_circuit fd__law_circuit
  f__law_widths : Addr
  fd__law_widths : FuncData
  d__law_widths : Vb.Dn K mg "_law_widths" s__law_widths ["layers", "width"] f__law_widths fd__law_widths
  f__law_mixed : Addr
  fd__law_mixed : FuncData
  d__law_mixed : Vb.Dn K mg "_law_mixed" s__law_mixed ["store", "value"] f__law_mixed fd__law_mixed
  f__law_class_names : Addr
  fd__law_class_names : FuncData
  d__law_class_names : Vb.Dn K mg "_law_class_names" s__law_class_names ["error"] f__law_class_names fd__law_class_names
  f__law_told : Addr
  fd__law_told : FuncData
  d__law_told : Vb.Dn K mg "_law_told" s__law_told ["circuit", "prime", "numbers", "value"] f__law_told fd__law_told
  f__law_bits_told : Addr
  fd__law_bits_told : FuncData
  d__law_bits_told : Vb.Dn K mg "_law_bits_told" s__law_bits_told ["circuit", "layer"] f__law_bits_told fd__law_bits_told
  f__law_made : Addr
  fd__law_made : FuncData
  d__law_made : Vb.Dn K mg "_law_made" s__law_made ["store", "layers", "width"] f__law_made fd__law_made
  f__law_parts_are : Addr
  fd__law_parts_are : FuncData
  d__law_parts_are : Vb.Dn K mg "_law_parts_are" s__law_parts_are ["circuit", "layers", "width"] f__law_parts_are fd__law_parts_are
  f__law_fits : Addr
  fd__law_fits : FuncData
  d__law_fits : Vb.Dn K mg "_law_fits" s__law_fits ["actual", "prime", "layers", "numbers"] f__law_fits fd__law_fits
  f__law_values_are : Addr
  fd__law_values_are : FuncData
  d__law_values_are : Vb.Dn K mg "_law_values_are" s__law_values_are ["store", "circuit", "prime", "layers", "numbers"] f__law_values_are fd__law_values_are
  f__law_refused : Addr
  fd__law_refused : FuncData
  d__law_refused : Vb.Dn K mg "_law_refused" s__law_refused ["store", "circuit", "prime", "numbers", "depth"] f__law_refused fd__law_refused
  f_law : Addr
  fd_law : FuncData
  d_law : Vb.Dn K mg "law" s_law ["script"] f_law fd_law
  C_Circuit : Addr
  g_Circuit : mg "Circuit" = some (.ref C_Circuit)
  c_Circuit : Cls K C_Circuit
  f_Circuit___init__ : Addr
  fd_Circuit___init__ : FuncData
  m_Circuit___init__ : Meth K C_Circuit "__init__" f_Circuit___init__
  d_Circuit___init__ : Vb.Dm K "__init__" "Circuit.__init__" s_Circuit___init__ ["self", "layers", "width"] f_Circuit___init__ fd_Circuit___init__
  f_Circuit___eq__ : Addr
  fd_Circuit___eq__ : FuncData
  m_Circuit___eq__ : Meth K C_Circuit "__eq__" f_Circuit___eq__
  d_Circuit___eq__ : Vb.Dm K "__eq__" "Circuit.__eq__" s_Circuit___eq__ ["self", "other"] f_Circuit___eq__ fd_Circuit___eq__
  p_Circuit_depth : Addr
  f_Circuit_depth : Addr
  fd_Circuit_depth : FuncData
  pr_Circuit_depth : PropOf K C_Circuit "depth" p_Circuit_depth f_Circuit_depth
  d_Circuit_depth : Vb.Dm K "depth" "Circuit.depth" s_Circuit_depth ["self"] f_Circuit_depth fd_Circuit_depth
  f_Circuit_bits : Addr
  fd_Circuit_bits : FuncData
  m_Circuit_bits : Meth K C_Circuit "bits" f_Circuit_bits
  d_Circuit_bits : Vb.Dm K "bits" "Circuit.bits" s_Circuit_bits ["self", "layer"] f_Circuit_bits fd_Circuit_bits
  f_Circuit_text : Addr
  fd_Circuit_text : FuncData
  m_Circuit_text : Meth K C_Circuit "text" f_Circuit_text
  d_Circuit_text : Vb.Dm K "text" "Circuit.text" s_Circuit_text ["self"] f_Circuit_text fd_Circuit_text
  mk_Circuit : Mk K C_Circuit f_Circuit___init__
  a_Circuit_layers : PySem.W.findIn K (.ref C_Circuit) "layers" = some none
  a_Circuit_width : PySem.W.findIn K (.ref C_Circuit) "width" = some none
  a_Circuit_widths : PySem.W.findIn K (.ref C_Circuit) "widths" = some none
  xs_NotInField_NotPrime : PySem.W.subIn K (.ref C_NotInField) (.ref C_NotPrime) = some false
  xs_TalkError_NotPrime : PySem.W.subIn K (.ref C_TalkError) (.ref C_NotPrime) = some false
  xs_TalkError_NotInField : PySem.W.subIn K (.ref C_TalkError) (.ref C_NotInField) = some false
  xs_NotInField_TalkError : PySem.W.subIn K (.ref C_NotInField) (.ref C_TalkError) = some true
  xs_OutOfRange_NotPrime : PySem.W.subIn K (.ref C_OutOfRange) (.ref C_NotPrime) = some false
  xs_OutOfRange_NotInField : PySem.W.subIn K (.ref C_OutOfRange) (.ref C_NotInField) = some false
  xs_OutOfRange_TalkError : PySem.W.subIn K (.ref C_OutOfRange) (.ref C_TalkError) = some true
  xs_TooLarge_NotPrime : PySem.W.subIn K (.ref C_TooLarge) (.ref C_NotPrime) = some false
  xs_TooLarge_NotInField : PySem.W.subIn K (.ref C_TooLarge) (.ref C_NotInField) = some false
  xs_TooLarge_TalkError : PySem.W.subIn K (.ref C_TooLarge) (.ref C_TalkError) = some true
  xs_WrongPlaces_NotPrime : PySem.W.subIn K (.ref C_WrongPlaces) (.ref C_NotPrime) = some false
  xs_WrongPlaces_NotInField : PySem.W.subIn K (.ref C_WrongPlaces) (.ref C_NotInField) = some false
  xs_WrongPlaces_TalkError : PySem.W.subIn K (.ref C_WrongPlaces) (.ref C_TalkError) = some true
  xs_NotPrime_NotInField : PySem.W.subIn K (.ref C_NotPrime) (.ref C_NotInField) = some false
  xs_NotPrime_TalkError : PySem.W.subIn K (.ref C_NotPrime) (.ref C_TalkError) = some true
  xs_NotCircuit_NotPrime : PySem.W.subIn K (.ref C_NotCircuit) (.ref C_NotPrime) = some false
  xs_NotCircuit_NotInField : PySem.W.subIn K (.ref C_NotCircuit) (.ref C_NotInField) = some false
  xs_NotCircuit_TalkError : PySem.W.subIn K (.ref C_NotCircuit) (.ref C_TalkError) = some true
  ki_Circuit : Vb.Ki K C_Circuit
  sb_Circuit_int : PySem.W.subIn K (.type "int") (.ref C_Circuit) = some false
  sb_Circuit_str : PySem.W.subIn K (.type "str") (.ref C_Circuit) = some false
  sb_Circuit_NoneType : PySem.W.subIn K (.type "NoneType") (.ref C_Circuit) = some false
  sb_Circuit_bool : PySem.W.subIn K (.type "bool") (.ref C_Circuit) = some false
  sb_Circuit_list : PySem.W.subIn K (.type "list") (.ref C_Circuit) = some false
  sb_Circuit_tuple : PySem.W.subIn K (.type "tuple") (.ref C_Circuit) = some false
  nl_Circuit : PySem.W.subIn K (.ref C_Circuit) (.type "list") = some false
  t_MAX_PRIME : Tok
  c_MAX_PRIME : mg "MAX_PRIME" = some (.int 101 t_MAX_PRIME)
  t_MAX_TESTED : Tok
  c_MAX_TESTED : mg "MAX_TESTED" = some (.int 10000 t_MAX_TESTED)
  t_MAX_LAYERS : Tok
  c_MAX_LAYERS : mg "MAX_LAYERS" = some (.int 4 t_MAX_LAYERS)
  t_ADD : Tok
  c_ADD : mg "ADD" = some (.str (Str.ofString "add") t_ADD)
  t_GATE_WORDS : Tok
  c_GATE_WORDS : mg "GATE_WORDS" = some (.int 3 t_GATE_WORDS)
  tc_TABLE_LENGTHS : Addr
  gt_TABLE_LENGTHS : mg "TABLE_LENGTHS" = some (.ref tc_TABLE_LENGTHS)
  tk_TABLE_LENGTHS : Vb.TcK K tc_TABLE_LENGTHS [1, 2, 4, 8, 16, 32]
  tc_WIDTHS : Addr
  gt_WIDTHS : mg "WIDTHS" = some (.ref tc_WIDTHS)
  tk_WIDTHS : Vb.TcK K tc_WIDTHS [1, 2, 4]
  tc_KINDS : Addr
  gt_KINDS : mg "KINDS" = some (.ref tc_KINDS)
  tk_KINDS : Vb.TcS K tc_KINDS [(Str.ofString "add"), (Str.ofString "mul")]
  n_ValueError : mg "ValueError" = none
  n_max : mg "max" = none
  n_range : mg "range" = none
  n_tuple : mg "tuple" = none
  n_list : mg "list" = none
  n_isinstance : mg "isinstance" = none
  n_int : mg "int" = none
  n_str : mg "str" = none
  n_len : mg "len" = none
  n_all : mg "all" = none
  n_zip : mg "zip" = none
  n_bool : mg "bool" = none
  n_abs : mg "abs" = none
  n_min : mg "min" = none
end K
local macro_rules | `(tactic| walk_at "rd1") => `(tactic| first
  | (with_reducible refine' Vb.r_var ?h_ ?k_); (case h_ => exact rfl)
  | with_reducible refine Vb.r_c ?_
  | with_reducible refine Vb.r_op ?_
  | with_reducible refine Vb.r_un ?_
  | with_reducible refine Vb.r_I0 ?_
  | (with_reducible refine Vb.r_I ?h_ ?_); (case h_ => walk_at "side")
  | with_reducible refine Vb.r_U ?_
  | with_reducible refine Vb.r_eqI ?_
  | with_reducible refine Vb.r_neI ?_
  | with_reducible refine Vb.r_test ?_
  | with_reducible refine Vb.r_tB ?_
  | with_reducible refine Vb.r_bl ?_
  | with_reducible refine Vb.r_and ?_
  | with_reducible refine Vb.r_or ?_
  | with_reducible refine Vb.r_not ?_
  | with_reducible refine Vb.r_andV ?_
  | with_reducible refine Vb.r_orV ?_
  | with_reducible refine Vb.r_notV ?_
  | with_reducible refine Vb.r_if ?_
  | with_reducible refine Vb.r_chain ?_
  | with_reducible refine Vb.r_iteT ?_
  | with_reducible refine Vb.r_iteF ?_
  | with_reducible refine Vb.r_iteNT ?_
  | with_reducible refine Vb.r_iteNF ?_
  | with_reducible refine Vb.r_nil ?_
  | with_reducible refine Vb.r_cons ?_
  | with_reducible refine Vb.r_tup ?_
  | with_reducible refine Vb.r_lst ?_
  | with_reducible refine Vb.r_CB ?_
  | with_reducible refine Vb.r_callS ?_
  | with_reducible refine Vb.r_call ?_
  | with_reducible refine Vb.r_BM ?_
  | with_reducible refine Vb.r_seq_set ?_
  | with_reducible refine Vb.r_seq_sub ?_
  | with_reducible refine Vb.r_seq_when ?_
  | with_reducible refine Vb.r_seq_if ?_
  | with_reducible refine Vb.r_seq_drop ?_
  | with_reducible refine Vb.r_seq ?_
  | with_reducible refine Vb.r_set ?_
  | with_reducible refine Vb.r_sub ?_
  | with_reducible refine Vb.r_when ?_
  | with_reducible refine Vb.r_ifs ?_
  | with_reducible refine Vb.r_drop ?_
  | with_reducible refine Vb.r_ret ?_
  | with_reducible refine Vb.r_brk ?_
  | with_reducible refine Vb.r_cnt ?_
  | with_reducible refine Vb.r_nxt ?_
  | with_reducible refine Vb.r_for ?_
  | with_reducible refine Vb.r_rng1 ?_
  | with_reducible refine Vb.r_rng2 ?_
  | with_reducible refine Vb.r_iList ?_
  | with_reducible refine Vb.r_gName ?_
  | with_reducible refine Vb.r_lc ?_
  | with_reducible refine Vb.lct_yes ?_
  | with_reducible refine Vb.lct_if ?_
  | with_reducible refine Vb.r_rng3 ?_
  | with_reducible refine Vb.r_rngW ?_
  | with_reducible refine Vb.r_eqBs ?_
  | with_reducible refine Vb.r_eqB ?_
  | with_reducible refine Vb.r_neB ?_
  | with_reducible refine Vb.r_eqS ?_
  | with_reducible refine Vb.r_neS ?_
  | with_reducible refine Vb.r_revL ?_
  | with_reducible refine Vb.r_isBl ?_
  | with_reducible refine Vb.r_notBl ?_
  | with_reducible refine Vb.r_sl ?_
  | with_reducible refine Vb.r_noP ?_
  | with_reducible refine Vb.r_part ?_
  | with_reducible refine Vb.r_iTup ?_
  | with_reducible refine Vb.r_isN ?_
  | with_reducible refine Vb.r_partI ?_
  | with_reducible refine Vb.r_iSeq ?_
  | with_reducible refine Vb.r_iEnumT ?_
  | with_reducible refine Vb.r_revT ?_
  | (with_reducible refine' Vb.r_lenA ?h1_ ?k_); (case h1_ => assumption)
  | with_reducible refine Vb.r_M1 ?_
  | with_reducible refine Vb.r_M0 ?_
  | with_reducible refine Vb.r_strA ?_
  | with_reducible refine Vb.r_iStr ?_
  | with_reducible refine Vb.f_str ?_
  | with_reducible refine Vb.r_inSg ?_
  | with_reducible refine Vb.r_niSg ?_
  | (with_reducible refine Vb.r_addS ?h1_ ?_); (case h1_ => walk_at "sz")
  | (with_reducible refine Vb.r_cutS ?h1_ ?_); (case h1_ => walk_at "sz")
  | (with_reducible refine Vb.r_lenS ?h1_ ?_); (case h1_ => walk_at "sz")
  | with_reducible refine Vb.r_sfld ?_
  | with_reducible refine Vb.r_tfld ?_
  | with_reducible refine Vb.r_meth ?_
  | with_reducible refine Vb.r_make ?_
  | with_reducible refine Vb.r_methK ?_
  | with_reducible refine Vb.r_listRg ?_
  | with_reducible refine Vb.r_rg1 ?_
  | with_reducible refine Vb.r_rg2 ?_
  | with_reducible refine Vb.r_notN ?_
  | with_reducible refine Vb.r_BM0 ?_
  | with_reducible refine Vb.r_abs ?_
  | with_reducible refine Vb.r_max2 ?_
  | with_reducible refine Vb.r_min2 ?_
  | with_reducible refine Vb.r_int ?_
  | with_reducible refine Vb.r_intB ?_
  | (with_reducible refine' Vb.r_ixL ?h1_ ?h2_ ?k_); (case h1_ => walk_at "hp"); (case h2_ => walk_at "at")
  | (with_reducible refine' Vb.r_ixT ?h1_ ?h2_ ?k_); (case h1_ => walk_at "hp"); (case h2_ => walk_at "at")
  | (with_reducible refine' Vb.r_len ?h1_ ?k_); (case h1_ => walk_at "hp")
  | (with_reducible refine' Vb.r_lenT ?h1_ ?k_); (case h1_ => walk_at "hp")
  | (with_reducible refine' Vb.r_setL ?h1_ ?h2_ ?k_); (case h1_ => walk_at "hp"); (case h2_ => walk_at "at")
  | (with_reducible refine' Vb.r_rev ?h1_ ?k_); (case h1_ => walk_at "hp")
  | (with_reducible refine' Vb.r_isB ?h1_ ?h2_ ?k_); (case h1_ => assumption); (case h2_ => first | exact (rfl : _ = true) | exact (rfl : _ = false) | exact rfl)
  | (with_reducible refine' Vb.r_isI ?h1_ ?h2_ ?k_); (case h1_ => assumption); (case h2_ => first | exact (rfl : _ = true) | exact (rfl : _ = false) | exact rfl)
  | (with_reducible refine' Vb.r_isS ?h1_ ?h2_ ?k_); (case h1_ => assumption); (case h2_ => first | exact (rfl : _ = true) | exact (rfl : _ = false) | exact rfl)
  | (with_reducible refine' Vb.r_isL ?h1_ ?h2_ ?k_); (case h1_ => assumption); (case h2_ => first | exact (rfl : _ = true) | exact (rfl : _ = false) | exact rfl)
  | (with_reducible refine' Vb.r_isT ?h1_ ?h2_ ?k_); (case h1_ => assumption); (case h2_ => first | exact (rfl : _ = true) | exact (rfl : _ = false) | exact rfl)
  | (with_reducible refine Vb.f_rng1 ?h1_ ?h2_ ?_); (case h1_ => walk_at "side"); (case h2_ => walk_at "side")
  | (with_reducible refine Vb.f_rng2 ?h1_ ?_); (case h1_ => walk_at "side4")
  | (with_reducible refine Vb.c_rng1 ?h1_ ?h2_ ?_); (case h1_ => walk_at "side"); (case h2_ => walk_at "side")
  | (with_reducible refine Vb.c_rng2 ?h1_ ?_); (case h1_ => walk_at "side4")
  | (with_reducible refine' Vb.f_list ?h1_ ?k_); (case h1_ => walk_at "hp")
  | (with_reducible refine' Vb.f_tup ?h1_ ?k_); (case h1_ => walk_at "hp")
  | (with_reducible refine' Vb.c_list ?h1_ ?k_); (case h1_ => walk_at "hp")
  | (with_reducible refine' Vb.c_tup ?h1_ ?k_); (case h1_ => walk_at "hp")
  | (with_reducible refine Vb.f_rngW ?h1_ ?_); (case h1_ => walk_at "sideW")
  | (with_reducible refine Vb.c_rngW ?h1_ ?_); (case h1_ => walk_at "sideW")
  | (with_reducible refine' Vb.r_ty ?h1_ ?k_); (case h1_ => walk_at "hp")
  | (with_reducible refine' Vb.r_isXr ?h1_ ?h2_ ?k_); (case h1_ => assumption); (case h2_ => walk_at "xd")
  | (with_reducible refine' Vb.r_isXt ?h1_ ?h2_ ?k_); (case h1_ => assumption); (case h2_ => walk_at "xd")
  | (with_reducible refine Vb.r_xf ?_)
  | (with_reducible refine' Vb.r_atM ?h1_ ?h2_ ?k_); (case h1_ => walk_at "hp"); (case h2_ => exact rfl)
  | (with_reducible refine' Vb.r_fldV ?h1_ ?h2_ ?h3_ ?h4_ ?k_); (case h1_ => walk_at "hp"); (case h2_ => assumption); (case h3_ => assumption); (case h4_ => exact rfl)
  | (with_reducible refine' Vb.r_app ?h1_ ?h2_ ?k_); (case h1_ => walk_at "hp"); (case h2_ => walk_at "side"))
local macro_rules | `(tactic| walk_at "rd") => `(tactic| repeat walk_at "rd1")
local macro_rules | `(tactic| walk_at "side") => `(tactic| first | decide | omega | assumption | (refine Vb.size_lt ?_; (try simp only [List.length_map, List.length_append, List.length_cons, List.length_nil]); omega) | (refine Vb.size_ok ?_; (try simp only [List.length_map, List.length_append, List.length_cons, List.length_nil]); omega) | exact ⟨by decide, by decide +kernel⟩ | (constructor <;> omega) | (refine Or.inl ⟨?_, ?_⟩ <;> omega) | (refine Or.inr ⟨?_, ?_⟩ <;> omega) | (refine Or.inr ⟨?_, ?_⟩ <;> decide) | (refine Or.inl ⟨?_, ?_⟩ <;> decide))
local macro_rules | `(tactic| walk_at "hp") => `(tactic| first
  | assumption
  | exact L2.upd_same
  | ((with_reducible apply Vb.sq_of); walk_at "hp")
  | ((with_reducible apply Vb.st_of); walk_at "hp")
  | ((with_reducible refine' Vb.h_new ?n1_ ?k_); (case n1_ => assumption); (case k_ => walk_at "hp"))
  | ((with_reducible refine' Vb.h_ne ?n1_ ?k_); (case n1_ => assumption); (case k_ => walk_at "hp"))
  | ((with_reducible refine' Vb.h_ne ?n1_ ?k_); (case n1_ => exact Ne.symm (by assumption)); (case k_ => walk_at "hp"))
  | ((with_reducible refine' Vb.h_same ?n1_ ?k_); (case n1_ => assumption); (case k_ => walk_at "hp"))
  | ((with_reducible refine' Vb.h_fr ?n1_ ?n2_ ?k_); (case n1_ => assumption); (case n2_ => assumption); (case k_ => walk_at "hp")))
local macro_rules | `(tactic| walk_at "at") => `(tactic| first | exact Vb.at_lit 0 rfl rfl | exact Vb.at_lit 1 rfl rfl | exact Vb.at_lit 2 rfl rfl | exact Vb.at_lit 3 rfl rfl | exact Vb.at_lit 4 rfl rfl | exact Vb.ix_lit 1 rfl rfl | exact Vb.ix_lit 2 rfl rfl | exact Vb.ix_lit 3 rfl rfl | exact Vb.ix_lit 0 rfl rfl | exact Vb.ix_lit 4 rfl rfl | exact Vb.at_lit _ (by omega) (by assumption))
local macro_rules | `(tactic| walk_at "side4") => `(tactic| (refine ⟨?_, ?_, ?_, ?_⟩ <;> omega))
local macro_rules | `(tactic| walk_at "sideW") => `(tactic| first | (refine Or.inl ⟨?_, ?_, ?_, ?_⟩ <;> omega) | (refine Or.inr ?_; omega) | omega)
local macro_rules | `(tactic| walk_at "xd") => `(tactic| first | exact Or.inl rfl | exact Or.inr ⟨_, _, rfl, by walk_at "hp"⟩)
local macro_rules | `(tactic| walk_at "sm") => `(tactic| first
  | exact L2.Same.refl _
  | assumption
  | ((with_reducible refine' Vb.sm_new ?k_ ?n1_); (case n1_ => assumption); (case k_ => walk_at "sm"))
  | ((with_reducible refine' L2.Same.trans ?k_ ?n1_); (case n1_ => assumption); (case k_ => walk_at "sm"))
  | ((with_reducible refine' Vb.same_mut ?k_ ?n1_); (case n1_ => assumption); (case k_ => walk_at "sm")))
local macro_rules | `(tactic| walk_at "fr") => `(tactic| first
  | exact Vb.Fr.refl _ _
  | assumption
  | ((with_reducible refine' Vb.fr_new ?k_ ?n1_); (case n1_ => assumption); (case k_ => walk_at "fr"))
  | ((with_reducible refine' Vb.Fr.trans ?k_ ?n1_); (case n1_ => assumption); (case k_ => walk_at "fr"))
  | ((with_reducible refine' Vb.fr_same ?k_ ?n1_); (case n1_ => assumption); (case k_ => walk_at "fr")))
local macro_rules | `(tactic| walk_at "st") => `(tactic| first
  | assumption
  | ((with_reducible refine' Vb.st_new ?k_ ?n1_); (case n1_ => assumption); (case k_ => walk_at "st"))
  | ((with_reducible refine' Vb.StoreAt.same ?k_ ?n1_); (case n1_ => assumption); (case k_ => walk_at "st")))
local macro_rules | `(tactic| walk_at "rx1") => `(tactic| first
  | walk_at "rd1"
  | ((with_reducible refine' Vb.r_newO ?h1_ (fun l_ n_ => ?k_)); (case h1_ => exact Vb.size_ok (Nat.le_of_ble_eq_true rfl))))
local macro_rules | `(tactic| walk_at "rx") => `(tactic| repeat walk_at "rx1")
local macro_rules | `(tactic| walk_at "ln") => `(tactic| first
  | (with_reducible assumption)
  | ((try simp only [Vb.len_app, Vb.len_lit, Vb.len_one, String.reduceToList, List.length_cons, List.length_nil] at *); omega))
local macro_rules | `(tactic| walk_at "szm") => `(tactic| (first | assumption | (refine ⟨by omega, by omega, ?_⟩; (try simp only [Vb.len_app, Vb.len_lit, Vb.len_one, String.reduceToList, List.length_cons, List.length_nil]); omega)))
local macro_rules | `(tactic| walk_at "sz") => `(tactic| (refine Vb.size_ok ?_; (try simp only [Vb.len_app, Vb.len_lit, Vb.len_one, String.reduceToList, List.length_cons, List.length_nil]); omega))
local macro_rules | `(tactic| walk_at "pq") => `(tactic| first | exact Pu.IsL.v | exact Pu.IsL.cp rfl)
local macro_rules | `(tactic| walk_at "pd") => `(tactic| first | exact Pu.IsD.v | exact Pu.IsD.cp rfl)
local macro_rules | `(tactic| walk_at "pa") => `(tactic| first | exact Pu.IsA.t | exact Pu.IsA.q | exact Pu.IsA.c (by assumption) | exact Pu.IsA.l Pu.IsL.v | exact Pu.IsA.l (Pu.IsL.cp rfl))
local macro_rules | `(tactic| walk_at "ps") => `(tactic| first
  | with_reducible exact Pu.Ps.nil
  | ((with_reducible refine' Pu.Ps.v ?h_); (case h_ => walk_at "ps"))
  | ((with_reducible refine' Pu.Ps.cpv ?e_ ?h_); (case e_ => exact rfl); (case h_ => walk_at "ps"))
  | ((with_reducible refine' Pu.Ps.cp ?e_ ?h_); (case e_ => exact rfl); (case h_ => walk_at "ps")))
local macro_rules | `(tactic| walk_at "psq") => `(tactic| first | exact Pu.SqOf.lst | exact Pu.SqOf.tup | exact Pu.SqOf.seq | assumption)
local macro_rules | `(tactic| walk_at "pnos") => `(tactic| first | exact trivial | exact ⟨Pu.no_un rfl, by walk_at "pnos"⟩ | exact ⟨Pu.no_v rfl, by walk_at "pnos"⟩ | exact ⟨Pu.no_fre rfl (by assumption), by walk_at "pnos"⟩)
local macro_rules | `(tactic| walk_at "pun") => `(tactic| (try dsimp only [Pu.unE, List.set, List.map]))
local macro_rules | `(tactic| walk_at "pno") => `(tactic| first | exact Pu.no_un rfl | exact Pu.no_v rfl | exact Pu.no_fre rfl (by assumption))
local macro_rules | `(tactic| walk_at "pR2") => `(tactic| first
  | with_reducible refine Pu.r_I0 ?_
  | with_reducible refine Pu.r_eqI ?_
  | with_reducible refine Pu.r_neI ?_
  | (with_reducible refine Pu.r_I ?h_ ?_); (case h_ => walk_at "side")
  | (with_reducible refine' Pu.r_ixL ?h1_ ?h2_ ?k_); (case h1_ => walk_at "pq"); (case h2_ => walk_at "pat")
  | (with_reducible refine' Pu.r_ixTk ?h1_ ?h2_ ?k_); (case h1_ => exact rfl); (case h2_ => walk_at "pat")
  | ((with_reducible refine' Pu.r_eqOwn ?h0_ ?h1_ ?h2_ ?k_); (case h0_ => exact rfl); (case h1_ => assumption); (case h2_ => assumption))
  | (with_reducible refine' Pu.r_catTk ?h1_ ?h2_ ?k_); (case h1_ => exact rfl); (case h2_ => walk_at "plen")
  | (with_reducible refine' Pu.r_ixA ?h1_ ?h2_ ?k_); (case h1_ => walk_at "pa"); (case h2_ => walk_at "pat")
  | (with_reducible refine' Pu.r_cat ?h1_ ?h2_ ?h3_ ?k_); (case h1_ => walk_at "pq"); (case h2_ => walk_at "pq"); (case h3_ => walk_at "plen")
  | (with_reducible refine' Pu.r_rep ?h1_ ?h2_ ?h3_ ?k_); (case h1_ => walk_at "pq"); (case h2_ => walk_at "side"); (case h3_ => walk_at "plen")
  | with_reducible refine Pu.r_eqBs ?_
  | with_reducible refine Pu.r_eqB ?_
  | with_reducible refine Pu.r_neB ?_
  | with_reducible refine Pu.r_eqS ?_
  | with_reducible refine Pu.r_neS ?_
  | ((with_reducible refine' Pu.r_eqDs ?h0_ ?h1_ ?h2_ ?h3_ ?k_); (case h0_ => exact rfl); (case h1_ => walk_at "pd"); (case h2_ => walk_at "pd"); (case h3_ => infer_instance))
  | ((with_reducible refine' Pu.r_neDs ?h0_ ?h1_ ?h2_ ?h3_ ?k_); (case h0_ => exact rfl); (case h1_ => walk_at "pd"); (case h2_ => walk_at "pd"); (case h3_ => infer_instance))
  | with_reducible refine Pu.r_isBl ?_
  | with_reducible refine Pu.r_notBl ?_
  | with_reducible refine Pu.r_isN ?_
  | with_reducible refine Pu.r_notN ?_
  | (with_reducible refine Pu.r_isN_no ?_)
  | (with_reducible refine Pu.r_notN_no ?_)
  | ((with_reducible refine' Pu.r_inCf ?h0_ ?h1_ ?k_); (case h0_ => exact rfl); (case h1_ => assumption))
  | ((with_reducible refine' Pu.r_niC ?h0_ ?h1_ ?k_); (case h0_ => exact rfl); (case h1_ => assumption))
  | ((with_reducible refine' Pu.r_inTf ?h0_ ?k_); (case h0_ => exact rfl))
  | ((with_reducible refine' Pu.r_niT ?h0_ ?k_); (case h0_ => exact rfl))
  | ((with_reducible refine' Pu.r_mulSt ?h1_ ?k_); (case h1_ => walk_at "szm"))
  | ((with_reducible refine' Pu.r_inSt ?h1_ ?k_); (case h1_ => first | exact Vb.sg_one _ | assumption))
  | ((with_reducible refine' Pu.r_niSt ?h1_ ?k_); (case h1_ => first | exact Vb.sg_one _ | assumption))
  | ((with_reducible refine' Pu.r_ixSt ?h1_ ?h2_ ?k_); (case h1_ => walk_at "sz"); (case h2_ => assumption))
  | (with_reducible refine Pu.r_addS ?h1_ ?_); (case h1_ => walk_at "sz"))
set_option hygiene false
local macro_rules | `(tactic| walk_at "kK") => `(tactic| exact (rfl : _ = K))
set_option hygiene true
local macro_rules | `(tactic| walk_at "pRL") => `(tactic| first
  | (with_reducible refine' Pu.r_len ?h1_ ?k_); (case h1_ => walk_at "pa")
  | with_reducible refine Pu.r_int ?_
  | (with_reducible refine' Pu.r_sum ?h1_ ?k_); (case h1_ => walk_at "pa")
  | (with_reducible refine' Pu.r_maxL ?h0_ ?h1_ ?h2_ ?k_); (case h0_ => exact rfl); (case h1_ => walk_at "pq"); (case h2_ => exact rfl)
  | (with_reducible refine' Pu.r_isi ?h1_ ?k_); (case h1_ => first | exact (rfl : _ = some true) | exact (rfl : _ = some false) | exact rfl | assumption)
  | (with_reducible refine' Pu.r_isLK ?h0_ ?h1_ ?h2_ ?k_); (case h0_ => walk_at "kK"); (case h1_ => walk_at "pq"); (case h2_ => exact rfl)
  | (with_reducible refine' Pu.r_isTK ?h0_ ?h1_ ?k_); (case h0_ => walk_at "kK"); (case h1_ => exact rfl)
  | (with_reducible refine' Pu.r_isiK ?h0_ ?h1_ ?h2_ ?k_); (case h0_ => walk_at "kK"); (case h1_ => infer_instance); (case h2_ => first | exact (rfl : _ = some true) | exact (rfl : _ = some false) | exact rfl | assumption)
  | (with_reducible refine' Pu.r_isOb ?h0_ ?h1_ ?h2_ ?h3_ ?k_); (case h0_ => walk_at "kK"); (case h1_ => infer_instance); (case h2_ => assumption); (case h3_ => assumption)
  | (with_reducible refine' Pu.r_isOT ?h0_ ?h1_ ?h2_ ?h3_ ?h4_ ?h5_ ?k_); (case h0_ => walk_at "kK"); (case h1_ => infer_instance); (case h2_ => assumption); (case h3_ => assumption); (case h4_ => decide +kernel); (case h5_ => assumption)
  | (with_reducible refine' Pu.r_isDO ?h0_ ?h1_ ?h2_ ?h3_ ?k_); (case h0_ => walk_at "kK"); (case h1_ => infer_instance); (case h2_ => assumption); (case h3_ => assumption)
  | (with_reducible refine' Pu.r_isX ?h1_ ?k_); (case h1_ => assumption)
  | (with_reducible refine' Pu.r_isXT ?h1_ ?k_); (case h1_ => assumption)
  | (with_reducible refine' Pu.r_list ?h1_ ?k_); (case h1_ => walk_at "pa")
  | (with_reducible refine' Pu.r_tupleK ?h0_ ?h1_ ?k_); (case h0_ => walk_at "kK"); (case h1_ => walk_at "pa")
  | ((with_reducible refine' Pu.r_lenSt ?h1_ ?k_); (case h1_ => walk_at "sz"))
  | ((with_reducible refine' Pu.r_strI ?h1_ ?k_); (case h1_ => assumption))
  | ((with_reducible refine' Pu.r_intS ?h1_ ?h2_ ?k_); (case h1_ => assumption); (case h2_ => omega))
  | ((with_reducible refine' Pu.r_allL ?h0_ ?h1_ ?k_); (case h0_ => exact rfl); (case h1_ => walk_at "pq"))
  | with_reducible refine Pu.r_abs ?_
  | with_reducible refine Pu.r_max2 ?_
  | with_reducible refine Pu.r_min2 ?_
  | with_reducible refine Pu.r_intB ?_)
local macro_rules | `(tactic| walk_at "pRS") => `(tactic| first
  | (with_reducible refine' Pu.r_slL ?h1_ ?k_); (case h1_ => walk_at "pq")
  | ((with_reducible refine' Pu.r_slSt ?h1_ ?k_); (case h1_ => walk_at "sz"))
  | (with_reducible refine' Pu.r_slTk ?h0_ ?k_); (case h0_ => walk_at "kK")
  | (with_reducible refine' Pu.r_slSk ?h0_ ?h1_ ?k_); (case h0_ => walk_at "kK"); (case h1_ => walk_at "pa"))
local macro_rules | `(tactic| walk_at "plen") => `(tactic| first | omega | (simp only [List.length_map, List.length_append, List.length_cons, List.length_nil, Pu.rep_len, List.length_replicate, List.length_reverse, List.length_set, List.length_take, List.length_drop]; omega))
local macro_rules | `(tactic| walk_at "pat") => `(tactic| first | exact Pu.at_ 0 rfl rfl | exact Pu.at_ 1 rfl rfl | exact Pu.at_ 2 rfl rfl | exact Pu.at_ 3 rfl rfl | exact Pu.at_ 4 rfl rfl | assumption | exact Pu.at_m (by assumption))
set_option hygiene false
local macro_rules | `(tactic| walk_at "pds") => `(tactic| (with_reducible refine Pu.w_dset (K := K) ?_))
local macro_rules | `(tactic| walk_at "pdg") => `(tactic| first | (with_reducible refine Pu.e_dget2 (K := K) rfl ?_) | (with_reducible refine Pu.e_dget2v (K := K) ?_) | (with_reducible refine Pu.e_dget (K := K) rfl ?_) | (with_reducible refine Pu.e_dgetv (K := K) ?_))
local macro_rules | `(tactic| walk_at "ptu") => `(tactic| (with_reducible refine Pu.e_tup (K := K) ?_))
set_option hygiene true
local macro_rules | `(tactic| walk_at "pE") => `(tactic| first
  | (with_reducible refine' Pu.e_var ?h_ ?k_); (case h_ => exact rfl)
  | with_reducible refine Pu.e_c ?_
  | with_reducible refine Pu.e_op ?_
  | with_reducible refine Pu.e_call ?_
  | with_reducible refine Pu.e_callZ ?_
  | (with_reducible refine' Pu.e_callSS ?h_ ?k_); (case h_ => assumption)
  | (with_reducible refine' Pu.e_callS ?h_ ?k_); (case h_ => assumption)
  | with_reducible refine Pu.e_callE ?_
  | (with_reducible refine' Pu.e_varO ?h_ ?k_); (case h_ => exact rfl)
  | with_reducible refine Pu.e_CB ?_
  | with_reducible refine Pu.e_fld ?_
  | walk_at "ptu"
  | with_reducible refine Pu.e_lst ?_
  | with_reducible refine Pu.e_un ?_
  | with_reducible refine Pu.e_if ?_
  | with_reducible refine Pu.e_andV ?_
  | with_reducible refine Pu.e_orV ?_
  | with_reducible refine Pu.e_notV ?_
  | with_reducible refine Pu.e_chain ?_
  | with_reducible refine Pu.e_sl ?_
  | with_reducible refine Pu.e_revL ?_
  | (with_reducible refine' Pu.e_append ?h_ ?k_); (case h_ => exact rfl)
  | (with_reducible refine' Pu.e_reverse ?h_ ?k_); (case h_ => exact rfl)
  | (with_reducible refine' Pu.e_meth ?h_ ?k_); (case h_ => assumption)
  | (with_reducible refine' Pu.e_methN ?k_)
  | (with_reducible refine' Pu.e_binP ?h_ ?k_); (case h_ => assumption)
  | (with_reducible refine' Pu.e_binPN ?k_)
  | (with_reducible refine' Pu.e_negP ?h_ ?k_); (case h_ => assumption)
  | (with_reducible refine' Pu.e_negPN ?k_)
  | with_reducible refine Pu.e_prop ?_
  | with_reducible refine Pu.e_dnew ?_
  | with_reducible refine Pu.e_maxD ?_
  | walk_at "pdg"
  | (with_reducible refine' Pu.e_makeI ?h_ ?k_); (case h_ => assumption)
  | (with_reducible refine' Pu.e_makeI0 ?k_)
  | (with_reducible refine' Pu.e_lcGX ?h_ ?k_); (case h_ => first | (dsimp only [List.map]; exact rfl) | exact rfl)
  | (with_reducible refine' Pu.e_lcL ?h_ ?k_); (case h_ => exact rfl)
  | (with_reducible refine' Pu.e_lcT ?h_ ?k_); (case h_ => exact rfl)
  | (with_reducible refine' Pu.e_lc1 ?h_ ?k_); (case h_ => exact rfl)
  | (with_reducible refine' Pu.e_lc2 ?h_ ?k_); (case h_ => exact rfl)
  | (with_reducible refine' Pu.e_lcG ?h_ ?k_); (case h_ => first | (dsimp only [List.map]; exact rfl) | exact rfl)
  | (with_reducible refine' Pu.e_lc2G ?h1_ ?h2_ ?k_); (case h1_ => first | (dsimp only [List.map]; exact rfl) | exact rfl); (case h2_ => exact rfl)
  | with_reducible refine Pu.e_M1 ?_
  | with_reducible refine Pu.e_xf ?_
  | ((with_reducible refine' Pu.e_spoilX ?h1_ ?h0_ ?h2_ ?h3_ ?k_); (case h1_ => exact rfl); (case h0_ => infer_instance); (case h2_ => walk_at "pnol"); (case h3_ => walk_at "plen"); (try dsimp only [List.set]))
  | ((with_reducible refine' Pu.e_spoilOX ?h1_ ?h0_ ?h2_ ?h3_ ?h4_ ?h5_ ?k_); (case h1_ => exact rfl); (case h0_ => intro _; infer_instance); (case h2_ => assumption); (case h3_ => assumption); (case h4_ => assumption); (case h5_ => walk_at "plen"); (try dsimp only [List.set]))
  | ((with_reducible refine' Pu.e_spoilTX ?h1_ ?h0_ ?k_); (case h1_ => exact rfl); (case h0_ => infer_instance)))
local macro_rules | `(tactic| walk_at "pnol") => `(tactic| first | assumption | exact Pu.noL_map (fun _ => rfl) | (intro d m; simp at m; subst m; rfl))
local macro_rules | `(tactic| walk_at "pEx") => `(tactic| first
  | (with_reducible refine' Pu.q_isA ?h1_ ?k_); (case h1_ => walk_at "pa")
  | with_reducible refine Pu.q_i ?_
  | with_reducible refine Pu.q_sr ?_
  | with_reducible refine Pu.q_bl ?_
  | with_reducible refine Pu.q_blR ?_
  | (with_reducible refine' Pu.q_fld ?h1_ ?h2_ ?h3_ ?k_); (case h1_ => first | infer_instance | exact Pu.fld_ob rfl); (case h2_ => assumption); (case h3_ => assumption)
  | (with_reducible refine' Pu.q_sfld ?h1_ ?h2_ ?h3_ ?h4_ ?k_); (case h1_ => exact rfl); (case h2_ => assumption); (case h3_ => assumption); (case h4_ => walk_at "plen"); (try dsimp only [List.set, Pu.putA]); (repeat rw [if_neg (by decide)])
  | (with_reducible refine' Pu.q_app ?h1_ ?h2_ ?k_); (case h1_ => exact rfl); (case h2_ => walk_at "plen")
  | (with_reducible refine' Pu.q_meth ?h1_ ?k_); (case h1_ => first | infer_instance | exact Pu.nom_ob rfl)
  | (with_reducible refine' Pu.q_ins ?h1_ ?k_); (case h1_ => infer_instance)
  | with_reducible refine Pu.q_raise ?_
  | with_reducible refine Pu.q_dk ?_
  | ((with_reducible refine' Pu.q_maxD ?h1_ ?k_); (case h1_ => walk_at "pq"))
  | ((with_reducible refine' Pu.q_maxD2 ?h1_ ?k_); (case h1_ => walk_at "pq"))
  | ((with_reducible refine' Pu.q_dg2 ?h1_ ?k_); (case h1_ => exact rfl))
  | ((with_reducible refine' Pu.q_dset ?h1_ ?h2_ ?k_); (case h1_ => exact rfl); (case h2_ => walk_at "plen"))
  | ((with_reducible refine' Pu.q_dg ?h1_ ?h2_ ?k_); (case h1_ => exact rfl); (case h2_ => assumption))
  | ((with_reducible refine' Pu.q_dgv ?h2_ ?k_); (case h2_ => assumption))
  | with_reducible refine Pu.q_dv ?_
  | (with_reducible refine' Pu.q_revL ?h1_ ?k_); (case h1_ => walk_at "pq")
  | (with_reducible refine' Pu.q_ea ?h1_ ?k_); (case h1_ => exact rfl)
  | (with_reducible refine' Pu.q_forA ?h1_ ?k_); (case h1_ => walk_at "psq")
  | with_reducible refine Pu.q_forL ?_
  | with_reducible refine Pu.q_forT ?_
  | (with_reducible refine Pu.q_for1 ?h1_ ?_); (case h1_ => walk_at "side")
  | (with_reducible refine Pu.q_for2 ?h1_ ?_); (case h1_ => walk_at "sideW")
  | (with_reducible refine Pu.q_lcL ?h2_ ?_); (case h2_ => walk_at "pno")
  | (with_reducible refine Pu.q_lcT ?h2_ ?_); (case h2_ => walk_at "pno")
  | (with_reducible refine Pu.q_lc1 ?h1_ ?h2_ ?_); (case h1_ => walk_at "side"); (case h2_ => walk_at "pno")
  | (with_reducible refine Pu.q_lc2 ?h1_ ?h2_ ?_); (case h1_ => walk_at "sideW"); (case h2_ => walk_at "pno")
  | ((with_reducible refine' Pu.q_lcs ?h1_ ?k_); (case h1_ => walk_at "plen"))
  | (with_reducible refine' Pu.q_seqR ?h_ ?k_); (case h_ => walk_at "psq")
  | (with_reducible refine' Pu.q_zip ?h1_ ?h2_ ?k_); (case h1_ => walk_at "psq"); (case h2_ => walk_at "psq")
  | with_reducible refine Pu.q_lst ?_
  | with_reducible refine Pu.q_tpl ?_
  | with_reducible refine Pu.q_tplA ?_
  | (with_reducible refine Pu.q_n1 ?h1_ ?_); (case h1_ => walk_at "side")
  | (with_reducible refine Pu.q_n2 ?h1_ ?_); (case h1_ => walk_at "sideW"))
local macro_rules | `(tactic| walk_at "pWW") => `(tactic| first
  | with_reducible refine Pu.w_seq ?_
  | with_reducible refine Pu.w_set ?_
  | with_reducible refine Pu.w_ret ?_
  | with_reducible refine Pu.w_if ?_
  | with_reducible refine Pu.w_drop ?_
  | with_reducible refine Pu.w_nxt ?_
  | with_reducible refine Pu.w_for1 ?_
  | with_reducible refine Pu.w_forL ?_
  | with_reducible refine Pu.w_for2 ?_
  | with_reducible refine Pu.w_forT ?_
  | with_reducible refine Pu.w_forA ?_
  | with_reducible refine Pu.w_for ?_
  | with_reducible refine Pu.w_retN ?_
  | with_reducible refine Pu.w_brk ?_
  | with_reducible refine Pu.w_cnt ?_
  | (with_reducible refine' Pu.w_raise0 ?h_ ?k_); (case h_ => assumption)
  | (with_reducible refine' Pu.w_raise1 ?h_ ?k_); (case h_ => assumption)
  | (with_reducible refine' Pu.w_sub ?k_)
  | walk_at "pds"
  | with_reducible refine Pu.w_sfldX ?_)
local macro_rules | `(tactic| walk_at "pSt") => `(tactic| first
  | (with_reducible refine Pu.s_v ?_); (try dsimp only [List.set])
  | (with_reducible refine' Pu.s_oz ?h_ ?k_); (case h_ => with_reducible assumption); (try dsimp only [List.set])
  | (with_reducible refine Pu.s_o ?_); (try dsimp only [List.set])
  | (with_reducible refine' Pu.s_cp ?h_ ?k_); (case h_ => exact rfl); (try dsimp only [List.set]))
local macro_rules | `(tactic| walk_at "pRt") => `(tactic| first
  | with_reducible refine Pu.ret_v ?_
  | with_reducible refine Pu.ret_o ?_
  | (with_reducible refine' Pu.ret_cp ?h_ ?k_); (case h_ => exact rfl))
local macro_rules | `(tactic| walk_at "pT") => `(tactic| first
  | with_reducible refine Pu.t_B ?_
  | with_reducible refine Pu.t_test ?_
  | with_reducible refine Pu.t_not ?_
  | with_reducible refine Pu.t_and ?_
  | with_reducible refine Pu.t_or ?_
  | with_reducible refine Pu.t_truI ?_
  | (with_reducible refine' Pu.t_tru ?h0_ ?k_); (case h0_ => exact rfl)
  | with_reducible refine Pu.t_yes ?_)
local macro_rules | `(tactic| walk_at "pFz") => `(tactic| first
  | with_reducible refine Pu.fz_v ?_
  | with_reducible refine Pu.fz_nil ?_
  | (with_reducible refine' Pu.fz_cp ?h_ ?k_); (case h_ => exact rfl); (try dsimp only [List.set])
  | (with_reducible refine' Pu.fz_cpv ?h_ ?k_); (case h_ => exact rfl)
  | with_reducible refine Pu.fz_vs ?_)
local macro_rules | `(tactic| walk_at "pIt") => `(tactic| first
  | with_reducible refine Vb.r_iteT ?_
  | with_reducible refine Vb.r_iteF ?_
  | with_reducible refine Vb.r_iteNT ?_
  | with_reducible refine Vb.r_iteNF ?_
  | ((with_reducible refine' Pu.ite_dt ?h_ ?k_); (case h_ => decide))
  | ((with_reducible refine' Pu.ite_df ?h_ ?k_); (case h_ => decide))
  | ((with_reducible refine' Pu.ite_ndt ?h_ ?k_); (case h_ => first | assumption | rfl | decide))
  | ((with_reducible refine' Pu.ite_ndf ?h_ ?k_); (case h_ => first | assumption | decide)))
local macro_rules | `(tactic| walk_at "pr1") => `(tactic| first
  | ((with_reducible show Pu.E _ _ _ _); walk_at "pE")
  | ((with_reducible show Pu.Z _ _); first | with_reducible refine Pu.z_v ?_ | with_reducible refine Pu.z_cp ?_ | with_reducible refine Pu.z_o ?_)
  | ((with_reducible show Pu.EA _ _ _ _); first | with_reducible refine Pu.a_cons ?_ | with_reducible refine Pu.a_nil ?_ | with_reducible refine Pu.a_star ?_)
  | ((with_reducible show Pu.IT _ _ _ _); first | with_reducible refine Pu.it_list ?_ | with_reducible refine Pu.it_tup ?_ | with_reducible refine Pu.it_rng1 ?_ | with_reducible refine Pu.it_rngW ?_ | with_reducible refine Pu.it_zip ?_ | with_reducible refine Pu.it_enum ?_ | with_reducible refine Pu.it_enumT ?_ | with_reducible refine Pu.it_seq ?_ | with_reducible refine Pu.it_str ?_)
  | ((with_reducible show Pu.GV _ _ _ _ _ _); walk_at "pun"; first | ((with_reducible refine' Pu.gv_name ?h_ ?k_); (case h_ => decide)) | ((with_reducible refine' Pu.gv_twoK ?h0_ ?h1_ ?h2_ ?k_); (case h0_ => walk_at "kK"); (case h1_ => decide); (case h2_ => decide)) | ((with_reducible refine' Pu.gv_anyK ?h0_ ?h1_ ?h2_ ?h3_ ?k_); (case h0_ => walk_at "kK"); (case h1_ => decide); (case h2_ => decide); (case h3_ => walk_at "psq")))
  | ((with_reducible show Pu.R2 _ _ _ _ _ _); walk_at "pR2")
  | ((with_reducible show Pu.W _ _ _ _); walk_at "pWW")
  | ((with_reducible show Pu.Fz _ _ _); walk_at "pFz")
  | ((with_reducible show Pu.SetR _ _ _ _); walk_at "pSt")
  | ((with_reducible show Pu.RL _ _ _ _ _); walk_at "pRL")
  | ((with_reducible show Exists _); walk_at "pEx")
  | ((with_reducible show Pu.T _ _ _ _); walk_at "pT")
  | walk_at "pIt"
  | (with_reducible refine' Pu.cls_ ?k_)
  | ((with_reducible show Pu.Cl _ _ _ _ _); first | ((with_reducible refine' Pu.cl_f ?h1_ ?k_); (case h1_ => walk_at "ps")) | ((with_reducible refine' Pu.cl_t ?h1_ ?k_); (case h1_ => walk_at "ps")))
  | ((with_reducible show And _ _); first | ((with_reducible refine' Pu.q_nos ?h_ ?k_); (case h_ => walk_at "pnos")) | with_reducible refine Pu.q_eqE ?_ | with_reducible refine Pu.q_tt ?_ | with_reducible refine Pu.q_tup rfl ?_ | ((with_reducible refine' Pu.q_sub ?h1_ ?k_); (case h1_ => exact rfl)) | ((with_reducible refine' Pu.q_subD ?h1_ ?k_); (case h1_ => exact rfl)) | ((with_reducible refine' Pu.q_ins2 ?h1_ ?k_); (case h1_ => infer_instance)) | with_reducible refine Pu.q_nlv ?_ | with_reducible refine Pu.q_nlo ?_)
  | with_reducible refine Pu.r_U ?_
  | ((with_reducible show Pu.R1 _ _ _ _ _); first | ((with_reducible refine' Pu.r1_join ?h0_ ?h1_ ?h2_ ?k_); (case h0_ => exact rfl); (case h1_ => walk_at "pq"); (case h2_ => assumption)) | ((with_reducible refine' Pu.r1_split ?h1_ ?h2_ ?k_); (case h1_ => rfl); (case h2_ => walk_at "sz")) | with_reducible refine Pu.r1_find ?_)
  | ((with_reducible show Pu.OI _ _ _ _); first | with_reducible refine Pu.o_none ?_ | with_reducible refine Pu.o_some ?_)
  | ((with_reducible show Pu.RS _ _ _ _ _ _ _); walk_at "pRS")
  | ((with_reducible show Pu.G _ _ _ _ _); first | with_reducible refine Pu.g_name ?_ | (((with_reducible refine' Pu.g_twoK ?h0_ ?k_); (case h0_ => walk_at "kK")); (try dsimp only [List.set])) | (((with_reducible refine' Pu.g_anyK ?h0_ ?h1_ ?k_); (case h0_ => walk_at "kK"); (case h1_ => walk_at "psq")); (try dsimp only [List.set])))
  | with_reducible refine Pu.lcs_yes ?_
  | walk_at "psame")
local macro_rules | `(tactic| walk_at "pr") => `(tactic| repeat walk_at "pr1")
local macro_rules | `(tactic| walk_at "pw1") => `(tactic| first | walk_at "pr1" | ((with_reducible show Pu.RetR _ _ _); walk_at "pRt"))
local macro_rules | `(tactic| walk_at "pw") => `(tactic| repeat walk_at "pw1")
set_option hygiene false
local macro_rules | `(tactic| walk_at "pmono") => `(tactic| repeat' first | exact id | exact hk _ | exact hX _ _ | refine Pu.pm_ex fun _ => ?_ | refine Pu.pm_and ?_ ?_ | refine Pu.pm_or ?_ ?_ | refine Pu.pm_all fun _ => ?_)
set_option hygiene true
local macro_rules | `(tactic| walk_at "plenh") => `(tactic| (intro As k X h; iterate 40 (all_goals first | (obtain ⟨rfl, _⟩ := h; rfl) | (obtain rfl := h; rfl) | (obtain ⟨_, h⟩ := h) | (rcases h with h | h))))
local macro_rules | `(tactic| walk_at "dok") => `(tactic| first
  | assumption
  | exact trivial
  | (refine Pu.dok_lm ?_ (fun _ => ?_); (focus walk_at "plen"); walk_at "dok")
  | (refine Pu.dok_tm ?_ (fun _ => ?_); (focus walk_at "plen"); walk_at "dok")
  | (refine Pu.dok_ll rfl ?_; walk_at "doks")
  | (refine Pu.dok_tl rfl ?_; walk_at "doks")
  | (refine Pu.dok_lmm ?_ (fun _ _ => ?_); (focus walk_at "plen"); walk_at "dok"))
local macro_rules | `(tactic| walk_at "doks") => `(tactic| first | exact trivial | (refine And.intro ?_ ?_; (focus walk_at "dok"); walk_at "doks"))
set_option hygiene false
local macro_rules | `(tactic| walk_at "psame") => `(tactic| ((with_reducible refine use_sm ?_ ?_); focus walk_at "dok"))
set_option hygiene true

namespace K
open PySem PySem.Spec PyProof.Rows L2
abbrev N__law_mix : List Str := ["number", "turn", "one", "two", "three"]
theorem sc__law_mix : FnScope N__law_mix ["number", "turn"] (defScope s__law_mix) := ⟨rfl, rfl, rfl, by decide +kernel, rfl, by decide +kernel, by decide +kernel⟩
section
variable {P : Program} {w : World} {K : PySem.W.Frag} {mg : Str → Option Value} {base : Heap}
def sp_mix (K : PySem.W.Frag) : Sp := fun vs H Q _ => ∃ a b : Int, vs = [.int a, .int b] ∧ ∀ r : Int, Q (.int r) H
theorem ok_mix (T : Txt K mg) : FnOk P w K mg base (L2N.CX P w) 1 T.f__law_mix T.fd__law_mix ["number", "turn"] (sp_mix K) := by
  refine Vb.okN T.d__law_mix.F sc__law_mix (fun vs H Q E h => ?_) (fun cdv A outer s H vs Q E hr h => ?_)
  · obtain ⟨a, b, rfl, _⟩ := h
    rfl
  · obtain ⟨a, b, rfl, q⟩ := h
    refine ⟨_, (pss_cons (ps_set (i := 2) sc__law_mix.nd rfl (by first | exact Or.inl rfl | exact Or.inr rfl) (pe_op op_mod (pe_callTy Vb.call_int (by rfl) T.n_int (by decide +kernel) (pa_cons (pe_op op_add (pe_op op_add (pe_op op_mul (pv 0) pe_int) (pe_op op_mul (pv 1) pe_int)) pe_int) pa_nil)) pe_int))
      (pss_cons (ps_set (i := 3) sc__law_mix.nd rfl (by first | exact Or.inl rfl | exact Or.inr rfl) (pe_op op_mod (pe_callTy Vb.call_int (by rfl) T.n_int (by decide +kernel) (pa_cons (pe_op op_add (pe_op op_add (pe_op op_mul (pv 2) (pv 2)) (pe_op op_mul (pv 1) pe_int)) pe_int) pa_nil)) pe_int))
      (pss_cons (ps_set (i := 4) sc__law_mix.nd rfl (by first | exact Or.inl rfl | exact Or.inr rfl) (pe_op op_mod (pe_callTy Vb.call_int (by rfl) T.n_int (by decide +kernel) (pa_cons (pe_op op_add (pe_op op_mul (pv 3) (pe_op op_add (pe_op op_fdiv (pv 3) pe_int) pe_int)) (pv 2)) pa_nil)) pe_int))
      (pss_one (ps_ret (pe_op op_fdiv (pv 4) pe_int)))))), ?_⟩
    (change (_ : L2.TS) _ ([some (.int a), some (.int b), none, none, none] : L2.St) _); try dsimp only [L2.cxOf, L2H.cxH]
    walk_at "rd"
    exact q _
theorem use_mix {K : PySem.W.Frag} {a b : Int} {H : Hp} {Q : VK} {E : XK} (h : ∀ r : Int, Q (.int r) H) : sp_mix K [.int a, .int b] H Q E := ⟨a, b, rfl, h⟩
end
end K
namespace K
open PySem PySem.Spec PyProof.Rows L2
abbrev N__law_take : List Str := ["store", "many", "cell", "rest"]
theorem sc__law_take : FnScope N__law_take ["store", "many"] (defScope s__law_take) := ⟨rfl, rfl, rfl, by decide +kernel, rfl, by decide +kernel, by decide +kernel⟩
section
variable {P : Program} {w : World} {K : PySem.W.Frag} {mg : Str → Option Value} {base : Heap}
def sp_take (K : PySem.W.Frag) : Sp := fun vs H Q _ => ∃ (st : Addr) (m : Int), vs = [.ref st, .int m] ∧ Vb.StoreAt H st ∧ m < 1073741824 ∧ ∀ (v : Int) (H' : Hp), 0 ≤ v → (1 < m → v < m) → (m ≤ 1 → v = 0) → Vb.Fr st H H' → Vb.StoreAt H' st → Q (.int v) H'
theorem ok_take (T : Txt K mg) : FnOk P w K mg base (L2N.CX P w) 2 T.f__law_take T.fd__law_take ["store", "many"] (sp_take K) := by
  have G__law_mix := ok_mix (P := P) (w := w) (base := base) T
  refine Vb.okN T.d__law_take.F sc__law_take (fun vs H Q E h => ?_) (fun cdv A outer s H vs Q E hr h => ?_)
  · obtain ⟨a, b, rfl, _⟩ := h
    rfl
  · obtain ⟨st, m, rfl, ⟨l, ns, pos, rest, turn, seed, hl, h1, h2, h3, h4⟩, hm, q⟩ := h
    refine ⟨_, (pss_cons (ps_set (i := 1) sc__law_take.nd rfl (by first | exact Or.inl rfl | exact Or.inr rfl) (pe_callB (Vb.call_max2 rfl) (by rfl) T.n_max (by decide +kernel) (pa_cons pe_int (pa_cons (pv 1) pa_nil))))
      (pss_cons (ps_asg (pe_op op_add (pe_callTy Vb.call_int (by rfl) T.n_int (by decide +kernel) (pa_cons (pe_ix ix_list (pv 0) pe_int (fun _ _ => rfl)) pa_nil)) pe_int) (pg_sub (pv 0) pe_int set_list))
      (pss_cons (ps_if (PW.pt (pw_and (pt_cmpR op_eq (pe_ix ix_list (pv 0) pe_int (fun _ _ => rfl)) pe_int (nomark _)) (pw_and1 (pt_cmpR op_lt (pe_ix ix_list (pv 0) pe_int (fun _ _ => rfl)) (pe_callB Vb.call_len (by rfl) T.n_len (by decide +kernel) (pa_cons (pe_ix ix_list (pv 0) pe_int (fun _ _ => rfl)) pa_nil)) (nomark _))))) (pss_cons (ps_set (i := 2) sc__law_take.nd rfl (by first | exact Or.inl rfl | exact Or.inr rfl) (pe_callTy Vb.call_int (by rfl) T.n_int (by decide +kernel) (pa_cons (pe_ix ix_list (pe_ix ix_list (pv 0) pe_int (fun _ _ => rfl)) (pe_ix ix_list (pv 0) pe_int (fun _ _ => rfl)) (fun _ _ => rfl)) pa_nil)))
      (pss_cons (ps_asg (pe_op op_add (pe_ix ix_list (pv 0) pe_int (fun _ _ => rfl)) pe_int) (pg_sub (pv 0) pe_int set_list))
      (pss_cons (ps_if (pt_cmpR op_lt (pe_callB Vb.call_abs (by rfl) T.n_abs (by decide +kernel) (pa_cons (pv 2) pa_nil)) (pe_op Vb.op_powB pe_int pe_int) (nomark _)) (pss_one (ps_ret (pe_op op_mod (pe_callTy Vb.call_int (by rfl) T.n_int (by decide +kernel) (pa_cons (pe_callS G__law_mix (hr.mono (by first | decide | omega)) (by rfl) T.d__law_mix.g T.d__law_mix.F.kp T.d__law_mix.b (fun σ => L2N.passAt (L2N.takes_of rfl rfl rfl rfl) σ) (pa_cons (pv 2) (pa_cons (pe_ix ix_list (pv 0) pe_int (fun _ _ => rfl)) pa_nil))) pa_nil)) (pv 1)))) pss_nil)
      (pss_one (ps_asg (pe_op op_mod (pe_callB Vb.call_abs (by rfl) T.n_abs (by decide +kernel) (pa_cons (pv 2) pa_nil)) (pe_op Vb.op_powB (pe_op Vb.op_powB pe_int pe_int) pe_int)) (pg_sub (pv 0) pe_int set_list)))))) pss_nil)
      (pss_cons (ps_if (pt_cmpR op_gt (pe_ix ix_list (pv 0) pe_int (fun _ _ => rfl)) pe_int (nomark _)) (pss_cons (ps_set (i := 3) sc__law_take.nd rfl (by first | exact Or.inl rfl | exact Or.inr rfl) (pe_callTy Vb.call_int (by rfl) T.n_int (by decide +kernel) (pa_cons (pe_ix ix_list (pv 0) pe_int (fun _ _ => rfl)) pa_nil)))
      (pss_cons (ps_asg (pe_op op_fdiv (pv 3) (pv 1)) (pg_sub (pv 0) pe_int set_list))
      (pss_one (ps_ret (pe_op op_mod (pv 3) (pv 1)))))) pss_nil)
      (pss_one (ps_ret (pe_op op_mod (pe_callTy Vb.call_int (by rfl) T.n_int (by decide +kernel) (pa_cons (pe_callS G__law_mix (hr.mono (by first | decide | omega)) (by rfl) T.d__law_mix.g T.d__law_mix.F.kp T.d__law_mix.b (fun σ => L2N.passAt (L2N.takes_of rfl rfl rfl rfl) σ) (pa_cons (pe_ix ix_list (pv 0) pe_int (fun _ _ => rfl)) (pa_cons (pe_ix ix_list (pv 0) pe_int (fun _ _ => rfl)) pa_nil))) pa_nil)) (pv 1)))))))), ?_⟩
    (change (_ : L2.TS) _ ([some (.ref st), some (.int m), none, none] : L2.St) _); try dsimp only [L2.cxOf, L2H.cxH]
    walk_at "rd"
    have hd : ∀ {H' : Hp} {t : List V}, H' st = some (.lst (.ref l :: t)) → ∀ (l' : Addr) (r : List V), H st = some (.lst (.ref l' :: r)) → ∃ r', H' st = some (.lst (.ref l' :: r')) := fun e l' r h => by
      rw [h1] at h
      cases h
      exact ⟨_, e⟩
    have hmm : 0 < (if m > 1 then m else 1) := by split <;> omega
    have hm2 : (if m > 1 then m else 1) < 1073741824 := by split <;> omega
    have out : ∀ (z : Int) (H' : Hp), Vb.Fr st H H' → Vb.StoreAt H' st → Q (.int (z % (if m > 1 then m else 1))) H' := fun z H' f1 f2 => by
      have e1 := Int.emod_nonneg z (show (if m > 1 then m else 1) ≠ 0 by omega)
      have e2 := Int.emod_lt_of_pos z hmm
      generalize z % (if m > 1 then m else 1) = r at e1 e2 ⊢
      refine q _ _ e1 (fun h => ?_) (fun h => ?_) f1 f2
      · rw [if_pos h] at e2; exact e2
      · rw [if_neg (by omega)] at e2; omega
    have nz : ∀ z : Int, 0 ≤ z → 0 ≤ z / (if m > 1 then m else 1) := fun z h => Int.ediv_nonneg h (by omega)
    generalize (if m > 1 then m else 1) = mm at hmm hm2 out nz ⊢
    refine Vb.r_ite (fun c1 => ?_) (fun c1 => ?_)
    · walk_at "rd"
      refine Vb.r_ite (fun c2 => ?_) (fun c2 => ?_)
      · walk_at "rd"
        rw [List.length_map] at c2
        have hz : (ns.map V.int)[pos.toNat]? = some (.int ns[pos.toNat]) := Vb.getV (by omega)
        refine Vb.r_ixL (by walk_at "hp") (Vb.at_lit pos.toNat (by omega) hz) ?_
        generalize ns[pos.toNat] = cell
        walk_at "rd"
        refine Vb.r_ite (fun c3 => ?_) (fun c3 => ?_)
        · walk_at "rd"
          refine use_mix fun r => ?_
          walk_at "rd"
          refine out _ _ ⟨fun b o n h => by walk_at "hp", hd L2.upd_same⟩ ⟨l, ns, pos + 1, rest, turn + 1, seed, hl, L2.upd_same, by walk_at "hp", by omega, h4⟩
        · walk_at "rd"
          have hg : 0 ≤ (if cell < 0 then -cell else cell) % (10 ^ Int.toNat 60) ^ Int.toNat 20 := Int.emod_nonneg _ (by decide +kernel)
          generalize (if cell < 0 then -cell else cell) % (10 ^ Int.toNat 60) ^ Int.toNat 20 = gr at hg ⊢
          refine Vb.r_ite (fun c4 => ?_) (fun c4 => ?_)
          · walk_at "rd"
            refine out _ _ ⟨fun b o n h => by walk_at "hp", hd L2.upd_same⟩ ⟨l, ns, pos + 1, gr / mm, turn + 1, seed, hl, L2.upd_same, by walk_at "hp", by omega, nz _ hg⟩
          · walk_at "rd"
            refine use_mix fun r => ?_
            walk_at "rd"
            refine out _ _ ⟨fun b o n h => by walk_at "hp", hd L2.upd_same⟩ ⟨l, ns, pos + 1, gr, turn + 1, seed, hl, L2.upd_same, by walk_at "hp", by omega, hg⟩
      · walk_at "rd"
        refine Vb.r_ite (fun c3 => absurd c3 (by omega)) (fun c3 => ?_)
        walk_at "rd"
        refine use_mix fun r => ?_
        walk_at "rd"
        refine out _ _ ⟨fun b o n h => by walk_at "hp", hd L2.upd_same⟩ ⟨l, ns, pos, rest, turn + 1, seed, hl, L2.upd_same, by walk_at "hp", by omega, h4⟩
    · walk_at "rd"
      refine Vb.r_ite (fun c3 => ?_) (fun c3 => absurd c3 (by omega))
      walk_at "rd"
      refine out _ _ ⟨fun b o n h => by walk_at "hp", hd L2.upd_same⟩ ⟨l, ns, pos, rest / mm, turn + 1, seed, hl, L2.upd_same, by walk_at "hp", h3, nz _ h4⟩
theorem use_take {st : Addr} {m : Int} {H : Hp} {Q : VK} {E : XK} (h1 : Vb.StoreAt H st) (h2 : m < 1073741824) (h : ∀ (v : Int) (H' : Hp), 0 ≤ v → (1 < m → v < m) → (m ≤ 1 → v = 0) → Vb.Fr st H H' → Vb.StoreAt H' st → Q (.int v) H') : sp_take K [.ref st, .int m] H Q E := ⟨st, m, rfl, h1, h2, h⟩
end
end K
namespace K
open PySem PySem.Spec PyProof.Rows L2
section
variable {P : Program} {w : World} {K : PySem.W.Frag} {mg : Str → Option Value} {base : Heap}
open Pu in
def φ_take : PSp := fun As k _ => ∃ m : Int, As = [I m] ∧ m < 1073741824 ∧ ∀ v : Int, 0 ≤ v → (1 < m → v < m) → (m ≤ 1 → v = 0) → k (.v (I v))
open Pu in
theorem okp_take (T : Txt K mg) : FnOk P w K mg base (L2N.CX P w) 2 T.f__law_take T.fd__law_take ["store", "many"] (toSpS φ_take) := (ok_take T).imp fun vs H Q E h => by
  obtain ⟨st, us, rfl, B, As, k, X, ⟨m, rfl, hm, q⟩, b, a, s, q1, _⟩ := h
  obtain ⟨x, rfl, rfl⟩ := one a
  exact ⟨st, m, rfl, (s st rfl).1, hm, fun v H' h1 h2 h3 f S => q1 B _ _ H' (q v h1 h2 h3) (nxt_fr b (s st rfl).2 f S) rfl⟩
end
end K
namespace K
open PySem PySem.Spec PyProof.Rows L2
abbrev N__law_edge : List Str := ["store", "low", "high", "many", "way"]
theorem sc__law_edge : FnScope N__law_edge ["store", "low", "high"] (defScope s__law_edge) := ⟨rfl, rfl, rfl, by decide +kernel, rfl, by decide +kernel, by decide +kernel⟩
section
variable {P : Program} {w : World} {K : PySem.W.Frag} {mg : Str → Option Value} {base : Heap}
def sp_edge (K : PySem.W.Frag) : Sp := fun vs H Q _ => ∃ (st : Addr) (lo hi : Int), vs = [.ref st, .int lo, .int hi] ∧ Vb.StoreAt H st ∧ hi - lo < 1073741823 ∧ ∀ (v : Int) (H' : Hp), lo ≤ v → (lo ≤ hi → v ≤ hi) → (hi ≤ lo → v = lo) → Vb.Fr st H H' → Vb.StoreAt H' st → Q (.int v) H'
theorem use_edge {st : Addr} {lo hi : Int} {H : Hp} {Q : VK} {E : XK} (h1 : Vb.StoreAt H st) (h2 : hi - lo < 1073741823) (h : ∀ (v : Int) (H' : Hp), lo ≤ v → (lo ≤ hi → v ≤ hi) → (hi ≤ lo → v = lo) → Vb.Fr st H H' → Vb.StoreAt H' st → Q (.int v) H') : sp_edge K [.ref st, .int lo, .int hi] H Q E := ⟨st, lo, hi, rfl, h1, h2, h⟩
theorem ok_edge (T : Txt K mg) : FnOk P w K mg base (L2N.CX P w) 3 T.f__law_edge T.fd__law_edge ["store", "low", "high"] (sp_edge K) := by
  have G__law_take := ok_take (P := P) (w := w) (base := base) T
  refine Vb.okN T.d__law_edge.F sc__law_edge (fun vs H Q E h => ?_) (fun cdv A outer s H vs Q E hr h => ?_)
  · obtain ⟨a, b, c, rfl, _⟩ := h
    rfl
  · obtain ⟨st, lo, hi, rfl, hS, hb, q⟩ := h
    refine ⟨_, (pss_cons (ps_set (i := 3) sc__law_edge.nd rfl (by first | exact Or.inl rfl | exact Or.inr rfl) (pe_op op_add (pe_callB (Vb.call_max2 rfl) (by rfl) T.n_max (by decide +kernel) (pa_cons pe_int (pa_cons (pe_op op_sub (pv 2) (pv 1)) pa_nil))) pe_int))
      (pss_cons (ps_set (i := 4) sc__law_edge.nd rfl (by first | exact Or.inl rfl | exact Or.inr rfl) (pe_callS G__law_take (hr.mono (by first | decide | omega)) (by rfl) T.d__law_take.g T.d__law_take.F.kp T.d__law_take.b (fun σ => L2N.passAt (L2N.takes_of rfl rfl rfl rfl) σ) (pa_cons (pv 0) (pa_cons pe_int pa_nil))))
      (pss_cons (ps_if (pt_cmpR op_eq (pv 4) pe_int (nomark _)) (pss_one (ps_ret (pv 1))) pss_nil)
      (pss_cons (ps_if (pt_cmpR op_eq (pv 4) pe_int (nomark _)) (pss_one (ps_ret (pe_op op_sub (pe_op op_add (pv 1) (pv 3)) pe_int))) pss_nil)
      (pss_cons (ps_if (pt_cmpR op_eq (pv 4) pe_int (nomark _)) (pss_one (ps_ret (pe_op op_add (pv 1) (pe_callB (Vb.call_min2 rfl) (by rfl) T.n_min (by decide +kernel) (pa_cons (pe_op op_sub (pv 3) pe_int) (pa_cons pe_int pa_nil)))))) pss_nil)
      (pss_one (ps_ret (pe_op op_add (pv 1) (pe_callS G__law_take (hr.mono (by first | decide | omega)) (by rfl) T.d__law_take.g T.d__law_take.F.kp T.d__law_take.b (fun σ => L2N.passAt (L2N.takes_of rfl rfl rfl rfl) σ) (pa_cons (pv 0) (pa_cons (pv 3) pa_nil))))))))))), ?_⟩
    (change (_ : L2.TS) _ ([some (.ref st), some (.int lo), some (.int hi), none, none] : L2.St) _); try dsimp only [L2.cxOf, L2H.cxH]
    walk_at "rd"
    have hm : 0 < (if hi - lo > 0 then hi - lo else 0) + 1 ∧ (if hi - lo > 0 then hi - lo else 0) + 1 < 1073741824 ∧ (lo ≤ hi → (if hi - lo > 0 then hi - lo else 0) + 1 = hi - lo + 1) ∧ (hi ≤ lo → (if hi - lo > 0 then hi - lo else 0) + 1 = 1) := by
      split <;> omega
    generalize (if hi - lo > 0 then hi - lo else 0) + 1 = m at hm ⊢
    obtain ⟨m1, m2, m3, m4⟩ := hm
    refine use_take hS (by decide) fun v1 H1 a1 a2 _ f1 S1 => ?_
    walk_at "rd"
    refine Vb.r_ite (fun c1 => ?_) (fun c1 => ?_)
    · walk_at "rd"
      exact q _ _ (by omega) (by omega) (by omega) f1 S1
    · walk_at "rd"
      refine Vb.r_ite (fun c2 => ?_) (fun c2 => ?_)
      · walk_at "rd"
        exact q _ _ (by omega) (by omega) (by omega) f1 S1
      · walk_at "rd"
        refine Vb.r_ite (fun c3 => ?_) (fun c3 => ?_)
        · walk_at "rd"
          refine q _ _ ?_ ?_ ?_ f1 S1 <;> split <;> omega
        · walk_at "rd"
          refine use_take S1 (by omega) fun v2 H2 b1 b2 b3 f2 S2 => ?_
          walk_at "rd"
          exact q _ _ (by omega) (by omega) (by omega) (f1.trans f2) S2
end
end K
namespace K
open PySem PySem.Spec PyProof.Rows L2
section
variable {P : Program} {w : World} {K : PySem.W.Frag} {mg : Str → Option Value} {base : Heap}
open Pu in
def φ_edge : PSp := fun As k _ => ∃ lo hi : Int, As = [I lo, I hi] ∧ hi - lo < 1073741823 ∧ ∀ v : Int, lo ≤ v → (lo ≤ hi → v ≤ hi) → (hi ≤ lo → v = lo) → k (.v (I v))
open Pu in
theorem okp_edge (T : Txt K mg) : FnOk P w K mg base (L2N.CX P w) 3 T.f__law_edge T.fd__law_edge ["store", "low", "high"] (toSpS φ_edge) := (ok_edge T).imp fun vs H Q E h => by
  obtain ⟨st, us, rfl, B, As, k, X, ⟨lo, hi, rfl, hm, q⟩, b, a, s, q1, _⟩ := h
  obtain ⟨x, y, rfl, rfl, rfl⟩ := two a
  exact ⟨st, lo, hi, rfl, (s st rfl).1, hm, fun v H' h1 h2 h3 f S => q1 B _ _ H' (q v h1 h2 h3) (nxt_fr b (s st rfl).2 f S) rfl⟩
end
end K
namespace K
open PySem PySem.Spec PyProof.Rows L2
abbrev N__law_chance : List Str := ["store", "part"]
theorem sc__law_chance : FnScope N__law_chance ["store", "part"] (defScope s__law_chance) := ⟨rfl, rfl, rfl, by decide +kernel, rfl, by decide +kernel, by decide +kernel⟩
section
variable {P : Program} {w : World} {K : PySem.W.Frag} {mg : Str → Option Value} {base : Heap}
def sp_chance (K : PySem.W.Frag) : Sp := fun vs H Q _ => ∃ (st : Addr) (m : Int), vs = [.ref st, .int m] ∧ Vb.StoreAt H st ∧ m < 1073741824 ∧ ∀ (b : Bool) (H' : Hp), Vb.Fr st H H' → Vb.StoreAt H' st → Q (.bl b) H'
theorem use_chance {st : Addr} {m : Int} {H : Hp} {Q : VK} {E : XK} (h1 : Vb.StoreAt H st) (h2 : m < 1073741824) (h : ∀ (b : Bool) (H' : Hp), Vb.Fr st H H' → Vb.StoreAt H' st → Q (.bl b) H') : sp_chance K [.ref st, .int m] H Q E := ⟨st, m, rfl, h1, h2, h⟩
theorem ok_chance (T : Txt K mg) : FnOk P w K mg base (L2N.CX P w) 3 T.f__law_chance T.fd__law_chance ["store", "part"] (sp_chance K) := by
  have G__law_take := ok_take (P := P) (w := w) (base := base) T
  refine Vb.okN T.d__law_chance.F sc__law_chance (fun vs H Q E h => ?_) (fun cdv A outer s H vs Q E hr h => ?_)
  · obtain ⟨a, b, rfl, _⟩ := h
    rfl
  · obtain ⟨st, m, rfl, hS, hm, q⟩ := h
    refine ⟨_, (pss_one (ps_ret (pe_cmpR op_eq (pe_callS G__law_take (hr.mono (by first | decide | omega)) (by rfl) T.d__law_take.g T.d__law_take.F.kp T.d__law_take.b (fun σ => L2N.passAt (L2N.takes_of rfl rfl rfl rfl) σ) (pa_cons (pv 0) (pa_cons (pv 1) pa_nil))) (pe_op op_sub (pe_callB (Vb.call_max2 rfl) (by rfl) T.n_max (by decide +kernel) (pa_cons pe_int (pa_cons (pv 1) pa_nil))) pe_int) (nomark _)))), ?_⟩
    (change (_ : L2.TS) _ ([some (.ref st), some (.int m)] : L2.St) _); try dsimp only [L2.cxOf, L2H.cxH]
    walk_at "rd"
    refine use_take hS hm fun t H1 _ _ _ f1 S1 => ?_
    walk_at "rd"
    exact q _ _ f1 S1
end
end K
namespace K
open PySem PySem.Spec PyProof.Rows L2
section
variable {P : Program} {w : World} {K : PySem.W.Frag} {mg : Str → Option Value} {base : Heap}
open Pu
def φ_chance : PSp := fun As k _ => ∃ m : Int, As = [I m] ∧ m < 1073741824 ∧ ∀ b : Bool, k (.v (Bo b))
theorem okp_chance (T : Txt K mg) : FnOk P w K mg base (L2N.CX P w) 3 T.f__law_chance T.fd__law_chance ["store", "part"] (toSpS φ_chance) := (ok_chance T).imp fun vs H Q E h => by
  obtain ⟨st, us, rfl, B, As, k, X, ⟨m, rfl, hm, q⟩, b, a, s, q1, _⟩ := h
  obtain ⟨x, rfl, rfl⟩ := one a
  exact ⟨st, m, rfl, (s st rfl).1, hm, fun v H' f S => q1 B _ _ H' (q v) (nxt_fr b (s st rfl).2 f S) rfl⟩
end
end K
namespace K
open PySem PySem.Spec PyProof.Rows L2
abbrev N_is_whole : List Str := ["value"]
theorem sc_is_whole : FnScope N_is_whole ["value"] (defScope s_is_whole) := ⟨rfl, rfl, rfl, by decide +kernel, rfl, by decide +kernel, by decide +kernel⟩
section
variable {P : Program} {w : World} {K : PySem.W.Frag} {mg : Str → Option Value} {base : Heap}
def whole : PyData → Bool | .int _ => true | _ => false
def sp_whole (K : PySem.W.Frag) : Sp := fun vs H Q _ => ∃ (v : V) (d : PyData), vs = [v] ∧ Dp K H v d ∧ Q (.bl (whole d)) H
theorem use_whole {v : V} {d : PyData} {b : Bool} {H : Hp} {Q : VK} {E : XK} (h : Dp K H v d) (e : whole d = b) (q : Q (.bl b) H) : sp_whole K [v] H Q E := ⟨v, d, rfl, h, by rw [e]; exact q⟩
theorem ok_whole (T : Txt K mg) : FnOk P w K mg base (L2N.CX P w) 1 T.f_is_whole T.fd_is_whole ["value"] (sp_whole K) := by
  refine Vb.okN T.d_is_whole.F sc_is_whole (fun vs H Q E h => ?_) (fun cdv A outer s H vs Q E hr h => ?_)
  · obtain ⟨a, b, rfl, _⟩ := h
    rfl
  · obtain ⟨v, d, rfl, hd, q⟩ := h
    refine ⟨_, (pss_one (ps_ret (pe_and (pe_callB call_isi (by rfl) T.n_isinstance (by decide +kernel) (pa_cons (pv 0) (pa_cons (pe_bltn (v := .ty "int") (by rfl) T.n_int (by decide +kernel) rfl) pa_nil))) (pe_one (pe_not (pe_callB call_isi (by rfl) T.n_isinstance (by decide +kernel) (pa_cons (pv 0) (pa_cons (pe_bltn (v := .ty "bool") (by rfl) T.n_bool (by decide +kernel) rfl) pa_nil)))))))), ?_⟩
    (change (_ : L2.TS) _ ([some (v)] : L2.St) _); try dsimp only [L2.cxOf, L2H.cxH]
    cases d <;> (walk_at "rd"; exact q)
end
end K
namespace K
open PySem PySem.Spec PyProof.Rows L2
abbrev N_is_prime : List Str := ["value", "divisor"]
theorem sc_is_prime : FnScope N_is_prime ["value"] (defScope s_is_prime) := ⟨rfl, rfl, rfl, by decide +kernel, rfl, by decide +kernel, by decide +kernel⟩
section
variable {P : Program} {w : World} {K : PySem.W.Frag} {mg : Str → Option Value} {base : Heap}
/-- is_prime -/
def sp_isprime (K : PySem.W.Frag) (C : Addr) : Sp := fun vs H Q E => ∃ (v : V) (d : PyData), vs = [v] ∧ Dp K H v d ∧ (∀ n, d = .int n → (10000 < n → E (.ref C) none H) ∧ (n ≤ 10000 → Q (.bl (Vb.isP n)) H)) ∧ (whole d = false → Q (.bl false) H)
theorem use_isprime {C : Addr} {n : Int} {b : Bool} {H : Hp} {Q : VK} {E : XK} (h : n ≤ 10000) (e : Vb.isP n = b) (q : Q (.bl b) H) : sp_isprime K C [.int n] H Q E := ⟨.int n, .int n, rfl, .int n, fun m z => by cases z; exact ⟨fun h' => absurd h (by omega), fun _ => by rw [e]; exact q⟩, fun z => by cases z⟩
theorem ok_isprime (T : Txt K mg) : FnOk P w K mg base (L2N.CX P w) 2 T.f_is_prime T.fd_is_prime ["value"] (sp_isprime K T.C_TooLarge) := by
  have G_is_whole := ok_whole (P := P) (w := w) (base := base) T
  refine Vb.okN T.d_is_prime.F sc_is_prime (fun vs H Q E h => ?_) (fun cdv A outer s H vs Q E hr h => ?_)
  · obtain ⟨a, b, rfl, _⟩ := h
    rfl
  · obtain ⟨v, d, rfl, hd, q1, q2⟩ := h
    refine ⟨_, (pss_cons (ps_if (pt_not (pt_val (pe_callS G_is_whole (hr.mono (by first | decide | omega)) (by rfl) T.d_is_whole.g T.d_is_whole.F.kp T.d_is_whole.b (fun σ => L2N.passAt (L2N.takes_of rfl rfl rfl rfl) σ) (pa_cons (pv 0) pa_nil)))) (pss_one (ps_ret pe_bl)) pss_nil)
      (pss_cons (ps_if (pt_cmpR op_gt (pv 0) (pe_glob (v := .int 10000) (by rfl) T.c_MAX_TESTED ⟨_, rfl⟩) (nomark _)) (pss_one (L2N.ps_raise rfl (L2N.takes_of rfl rfl rfl rfl) (Vb.pmk0 T.x_TooLarge rfl))) pss_nil)
      (pss_cons (ps_set (i := 1) sc_is_prime.nd rfl (by first | exact Or.inl rfl | exact Or.inr rfl) pe_int)
      (pss_cons (ps_while (L2.passes_of rfl) (pt_cmpR op_le (pe_op op_mul (pv 1) (pv 1)) (pv 0) (nomark _)) (pss_cons (ps_if (pt_cmpR op_eq (pe_op op_mod (pv 0) (pv 1)) pe_int (nomark _)) (pss_one (ps_ret pe_bl)) pss_nil)
      (pss_one (ps_set (i := 1) sc_is_prime.nd rfl (by first | exact Or.inl rfl | exact Or.inr rfl) (pe_op op_add (pv 1) pe_int)))))
      (pss_one (ps_ret (pe_cmpR op_gt (pv 0) pe_int (nomark _)))))))), ?_⟩
    (change (_ : L2.TS) _ ([some (v), none] : L2.St) _); try dsimp only [L2.cxOf, L2H.cxH]
    walk_at "rd"
    cases hw : whole d with
    | false =>
      refine use_whole hd hw ?_
      walk_at "rd"
      exact q2 hw
    | true =>
      refine use_whole hd hw ?_
      walk_at "rd"
      cases d with
      | int n =>
        cases hd
        obtain ⟨q3, q4⟩ := q1 n rfl
        walk_at "rd"
        refine Vb.r_ite (fun c1 => ?_) (fun c1 => ?_)
        · exact q3 c1
        walk_at "rd"
        refine Vb.r_while (fun m σ H' => H' = H ∧ ∃ D : Int, σ = [some (.int n), some (.int D)] ∧ 2 ≤ D ∧ D ≤ 10001 ∧ (∀ d : Int, 2 ≤ d → d < D → n % d ≠ 0) ∧ m = (n + 1 - D).toNat) _ ⟨rfl, 2, rfl, by omega, by omega, fun d a b => by omega, rfl⟩ ?_
        rintro m σ H' ⟨rfl, D, rfl, hD, hD1, hd, hm⟩
        have hDn : D * D ≤ n → D < n := fun h => by
          have : D * 2 ≤ D * D := Int.mul_le_mul_of_nonneg_left hD (by omega)
          omega
        walk_at "rd"
        refine Vb.r_ite (fun c2 => ?_) (fun c2 => ?_)
        · have hl := hDn c2
          refine Vb.wh_body ?_
          walk_at "rd"
          refine Vb.r_ite (fun c3 => ?_) (fun c3 => ?_)
          · walk_at "rd"
            have e : Vb.isP n = false := by
              cases z : Vb.isP n with
              | false => rfl
              | true => exact absurd ((Vb.isP_iff n).mp z) (Vb.not_prm hD hl c3)
            rw [← e]
            exact q4 (by omega)
          · walk_at "rd"
            refine ⟨_, ?_, rfl, D + 1, rfl, by omega, by omega, fun d a b => ?_, rfl⟩
            · omega
            · by_cases z : d = D
              · rw [z]; exact c3
              · exact hd d a (by omega)
        · walk_at "rd"
          have e : Vb.isP n = decide (1 < n) := by
            by_cases z : 1 < n
            · rw [decide_eq_true z, Vb.isP_iff]
              exact Vb.prm_root (by omega) hD (by omega) hd
            · rw [decide_eq_false z]
              cases y : Vb.isP n with
              | false => rfl
              | true => exact absurd ((Vb.isP_iff n).mp y).1 (by omega)
          rw [← e]
          exact q4 (by omega)
      | none => cases hw
      | bool b => cases hw
      | str x => cases hw
      | list ds => cases hw
      | tuple ds => cases hw
      | dict kvs => cases hw
end
end K
namespace K
open PySem PySem.Spec PyProof.Rows L2
abbrev N_check_prime : List Str := ["prime"]
theorem sc_check_prime : FnScope N_check_prime ["prime"] (defScope s_check_prime) := ⟨rfl, rfl, rfl, by decide +kernel, rfl, by decide +kernel, by decide +kernel⟩
section
variable {P : Program} {w : World} {K : PySem.W.Frag} {mg : Str → Option Value} {base : Heap}
/-- check_prime -/
def field : PyData → Bool | .int p => decide (p ≤ 101) && Vb.isP p | _ => false
theorem field_yes {n : Int} (h : Vb.Prm n) (l : n ≤ 101) : field (.int n) = true := by
  show (decide (n ≤ 101) && Vb.isP n) = true
  rw [decide_eq_true l, (Vb.isP_iff n).mpr h]
  rfl
def sp_check (K : PySem.W.Frag) (C : Addr) : Sp := fun vs H Q E => ∃ (v : V) (d : PyData), vs = [v] ∧ Dp K H v d ∧ (field d = true → Q v H) ∧ (field d = false → ∀ dd : Addr, H dd = none → E (.ref C) (some dd) (upd H dd (.xd [("value", v)])))
theorem ok_check (T : Txt K mg) : FnOk P w K mg base (L2N.CX P w) 3 T.f_check_prime T.fd_check_prime ["prime"] (sp_check K T.C_NotPrime) := by
  have G_is_prime := ok_isprime (P := P) (w := w) (base := base) T
  have G_is_whole := ok_whole (P := P) (w := w) (base := base) T
  refine Vb.okN T.d_check_prime.F sc_check_prime (fun vs H Q E h => ?_) (fun cdv A outer s H vs Q E hr h => ?_)
  · obtain ⟨a, b, rfl, _⟩ := h
    rfl
  · obtain ⟨v, d, rfl, hd, q1, q2⟩ := h
    refine ⟨_, (pss_cons (ps_if (PW.pt (pw_or (pt_not (pt_val (pe_callS G_is_whole (hr.mono (by first | decide | omega)) (by rfl) T.d_is_whole.g T.d_is_whole.F.kp T.d_is_whole.b (fun σ => L2N.passAt (L2N.takes_of rfl rfl rfl rfl) σ) (pa_cons (pv 0) pa_nil)))) (pw_or (pt_cmpR op_gt (pv 0) (pe_glob (v := .int 101) (by rfl) T.c_MAX_PRIME ⟨_, rfl⟩) (nomark _)) (pw_or1 (pt_not (pt_val (pe_callS G_is_prime (hr.mono (by first | decide | omega)) (by rfl) T.d_is_prime.g T.d_is_prime.F.kp T.d_is_prime.b (fun σ => L2N.passAt (L2N.takes_of rfl rfl rfl rfl) σ) (pa_cons (pv 0) pa_nil)))))))) (pss_one (L2N.ps_raise rfl (L2N.takes_of rfl rfl rfl rfl) (L2.pmk_value T.i_NotPrime (hr.mono (by decide) : Room 1 _) (by exact (pa_cons (pv 0) pa_nil)) rfl))) pss_nil)
      (pss_one (ps_ret (pv 0)))), ?_⟩
    (change (_ : L2.TS) _ ([some (v)] : L2.St) _); try dsimp only [L2.cxOf, L2H.cxH]
    walk_at "rd"
    cases hw : whole d with
    | false =>
      refine use_whole hd hw ?_
      walk_at "rd"
      have hf : field d = false := by cases d <;> first | rfl | cases hw
      exact ⟨_, rfl, _, rfl, fun dd n => q2 hf dd n⟩
    | true =>
      refine use_whole hd hw ?_
      walk_at "rd"
      cases d with
      | int n =>
        cases hd
        walk_at "rd"
        refine Vb.r_ite (fun c1 => ?_) (fun c1 => ?_)
        · walk_at "rd"
          have hf : field (.int n) = false := by
            show (decide (n ≤ 101) && Vb.isP n) = false
            rw [decide_eq_false (by omega)]
            rfl
          exact ⟨_, rfl, _, rfl, fun dd n => q2 hf dd n⟩
        walk_at "rd"
        have hf : field (.int n) = Vb.isP n := by
          show (decide (n ≤ 101) && Vb.isP n) = _
          rw [decide_eq_true (by omega)]
          rfl
        cases hp : Vb.isP n with
        | true =>
          refine use_isprime (by omega) hp ?_
          walk_at "rd"
          exact q1 (hf.trans hp)
        | false =>
          refine use_isprime (by omega) hp ?_
          walk_at "rd"
          exact ⟨_, rfl, _, rfl, fun dd n => q2 (hf.trans hp) dd n⟩
      | none => cases hw
      | bool b => cases hw
      | str x => cases hw
      | list ds => cases hw
      | tuple ds => cases hw
      | dict kvs => cases hw
end
end K
namespace K
open PySem PySem.Spec PyProof.Rows L2
abbrev N_is_number : List Str := ["prime", "value"]
theorem sc_is_number : FnScope N_is_number ["prime", "value"] (defScope s_is_number) := ⟨rfl, rfl, rfl, by decide +kernel, rfl, by decide +kernel, by decide +kernel⟩
section
variable {P : Program} {w : World} {K : PySem.W.Frag} {mg : Str → Option Value} {base : Heap}
/-- a number of the field of p -/
def inField (p : Int) : PyData → Bool | .int n => decide (0 ≤ n) && decide (n < p) | _ => false
theorem inField_int {p n : Int} : inField p (.int n) = true ↔ 0 ≤ n ∧ n < p := by
  show (decide (0 ≤ n) && decide (n < p)) = true ↔ _
  rw [Bool.and_eq_true, decide_eq_true_iff, decide_eq_true_iff]
theorem inField_of {p : Int} {d : PyData} (h : inField p d = true) : ∃ n, d = .int n ∧ 0 ≤ n ∧ n < p := by
  cases d <;> first | (cases h; done) | exact ⟨_, rfl, inField_int.mp h⟩
def sp_number (K : PySem.W.Frag) : Sp := fun vs H Q _ => ∃ (p : Int) (v : V) (d : PyData), vs = [.int p, v] ∧ Dp K H v d ∧ Q (.bl (inField p d)) H
theorem use_number {p : Int} {v : V} {d : PyData} {b : Bool} {H : Hp} {Q : VK} {E : XK} (h : Dp K H v d) (e : inField p d = b) (q : Q (.bl b) H) : sp_number K [.int p, v] H Q E := ⟨p, v, d, rfl, h, by rw [e]; exact q⟩
theorem ok_number (T : Txt K mg) : FnOk P w K mg base (L2N.CX P w) 2 T.f_is_number T.fd_is_number ["prime", "value"] (sp_number K) := by
  have G_is_whole := ok_whole (P := P) (w := w) (base := base) T
  refine Vb.okN T.d_is_number.F sc_is_number (fun vs H Q E h => ?_) (fun cdv A outer s H vs Q E hr h => ?_)
  · obtain ⟨a, b, c, rfl, _⟩ := h
    rfl
  · obtain ⟨p, v, d, rfl, hd, q⟩ := h
    refine ⟨_, (pss_one (ps_ret (pe_and (pe_callS G_is_whole (hr.mono (by first | decide | omega)) (by rfl) T.d_is_whole.g T.d_is_whole.F.kp T.d_is_whole.b (fun σ => L2N.passAt (L2N.takes_of rfl rfl rfl rfl) σ) (pa_cons (pv 1) pa_nil)) (pe_one (pe_chain op_le op_lt pe_int (pv 1) (pv 0)))))), ?_⟩
    (change (_ : L2.TS) _ ([some (.int p), some (v)] : L2.St) _); try dsimp only [L2.cxOf, L2H.cxH]
    walk_at "rd"
    cases hw : whole d with
    | false =>
      refine use_whole hd hw ?_
      walk_at "rd"
      have hf : inField p d = false := by cases d <;> first | rfl | cases hw
      rw [hf] at q
      exact q
    | true =>
      refine use_whole hd hw ?_
      cases d <;> first | (cases hw; done) | skip
      rename_i n
      cases hd
      walk_at "rd"
      have e : inField p (.int n) = (decide (0 ≤ n) && decide (n < p)) := rfl
      rw [e] at q
      refine Vb.r_ite (fun c => ?_) (fun c => ?_)
      · rw [decide_eq_true c] at q
        walk_at "rd"
        exact q
      · rw [decide_eq_false c] at q
        exact q
end
end K
namespace K
open PySem PySem.Spec PyProof.Rows L2
section
/-- a whole number from least to most -/
def inRange (lo hi : Int) : PyData → Bool | .int n => decide (lo ≤ n) && decide (n ≤ hi) | _ => false
theorem inRange_int {lo hi n : Int} : inRange lo hi (.int n) = true ↔ lo ≤ n ∧ n ≤ hi := by
  show (decide (lo ≤ n) && decide (n ≤ hi)) = true ↔ _
  rw [Bool.and_eq_true, decide_eq_true_iff, decide_eq_true_iff]
theorem inRange_of {lo hi : Int} {d : PyData} (h : inRange lo hi d = true) : ∃ n, d = .int n ∧ lo ≤ n ∧ n ≤ hi := by
  cases d <;> first | (cases h; done) | exact ⟨_, rfl, inRange_int.mp h⟩
end
end K
namespace K
open PySem PySem.Spec PyProof.Rows L2
abbrev N__law_row : List Str := ["store", "row"]
theorem sc__law_row : FnScope N__law_row ["store", "row"] (defScope s__law_row) := ⟨rfl, rfl, rfl, by decide +kernel, rfl, by decide +kernel, by decide +kernel⟩
section
variable {P : Program} {w : World} {K : PySem.W.Frag} {mg : Str → Option Value} {base : Heap}
open Pu
/-- a copy of a list or a tuple: either told so, or by its two ways -/
def φ_row (K : PySem.W.Frag) : PSp := fun As k _ => ∃ (A : Asn) (Bs : List Asn), As = [A] ∧ SqOf K A Bs ∧ (k (.v (Sq K Bs)) ∨ (k (.o (Lc Bs)) ∧ k (.v (Tu K Bs))))
theorem okp_row (T : Txt K mg) : FnOk P w K mg base (L2N.CX P w) 3 T.f__law_row T.fd__law_row ["store", "row"] (toSpS (φ_row K)) := by
  have G__law_take := okp_take (P := P) (w := w) (base := base) T
  refine okPS T.d__law_row.F sc__law_row (by decide) (fun As k X h => by obtain ⟨A, Bs, rfl, _⟩ := h; rfl) fun cdv A outer s H E st c As kk X hr hX h => ?_
  obtain ⟨A, Bs, rfl, hA, q⟩ := h
  refine ⟨_, (pss_cons (ps_if (pt_cmpR op_eq (pe_callS G__law_take (hr.mono (by first | decide | omega)) (by rfl) T.d__law_take.g T.d__law_take.F.kp T.d__law_take.b (fun σ => L2N.passAt (L2N.takes_of rfl rfl rfl rfl) σ) (pa_cons (pv 0) (pa_cons pe_int pa_nil))) pe_int (nomark _)) (pss_one (ps_ret (pe_callTy Vb.call_list (by rfl) T.n_list (by decide +kernel) (pa_cons (pv 1) pa_nil)))) pss_nil)
      (pss_one (ps_ret (pe_callTy Vb.call_tuple (by rfl) T.n_tuple (by decide +kernel) (pa_cons (pv 1) pa_nil))))), ?_⟩
  change Pu.W _ _ [.v (Pu.Rf st), .v (A)] _
  walk_at "pw"
  refine ⟨_, rfl, by decide, fun v h1 h2 h3 => ?_⟩
  walk_at "pw"
  refine Vb.r_ite (fun hv => ?_) (fun hv => ?_)
  · walk_at "pr"
    rcases q with q | q
    · exact ret_s Imp.LS q
    · exact ret_o q.1
  · walk_at "pr"
    rcases q with q | q
    · exact ret_w Imp.TS q
    · exact ret_v q.2
end
end K
namespace K
open PySem PySem.Spec PyProof.Rows L2
abbrev N__law_pick : List Str := ["store", "row"]
theorem sc__law_pick : FnScope N__law_pick ["store", "row"] (defScope s__law_pick) := ⟨rfl, rfl, rfl, by decide +kernel, rfl, by decide +kernel, by decide +kernel⟩
section
variable {P : Program} {w : World} {K : PySem.W.Frag} {mg : Str → Option Value} {base : Heap}
open Pu
def φ_pick (K : PySem.W.Frag) : PSp := fun As k _ => ∃ (A : Asn) (Bs : List Asn), As = [A] ∧ SqOf K A Bs ∧ Bs ≠ [] ∧ Bs.length < 1000000 ∧ ∀ (i : Nat) B, Bs[i]? = some B → k (.v B)
theorem okp_pick (T : Txt K mg) : FnOk P w K mg base (L2N.CX P w) 3 T.f__law_pick T.fd__law_pick ["store", "row"] (toSpS (φ_pick K)) := by
  have G__law_take := okp_take (P := P) (w := w) (base := base) T
  refine okPS T.d__law_pick.F sc__law_pick (by decide) (fun As k X h => by obtain ⟨A, Bs, rfl, _⟩ := h; rfl) fun cdv A outer s H E st c As kk X hr hX h => ?_
  obtain ⟨A, Bs, rfl, hA, ne, lt, q⟩ := h
  have hl := List.length_pos_iff.mpr ne
  refine ⟨_, (pss_cons (ps_if (pt_cmpR op_eq (pe_callB Vb.call_len (by rfl) T.n_len (by decide +kernel) (pa_cons (pv 1) pa_nil)) pe_int (nomark _)) (pss_one (ps_ret pe_non)) pss_nil)
      (pss_one (ps_ret (pe_ix ix_seq (pv 1) (pe_callS G__law_take (hr.mono (by first | decide | omega)) (by rfl) T.d__law_take.g T.d__law_take.F.kp T.d__law_take.b (fun σ => L2N.passAt (L2N.takes_of rfl rfl rfl rfl) σ) (pa_cons (pv 0) (pa_cons (pe_callB Vb.call_len (by rfl) T.n_len (by decide +kernel) (pa_cons (pv 1) pa_nil)) pa_nil))) (fun _ _ => rfl))))), ?_⟩
  change Pu.W _ _ [.v (Pu.Rf st), .v (A)] _
  walk_at "pw"
  refine Vb.r_ite (fun hv => by omega) (fun hv => ?_)
  walk_at "pw"
  refine ⟨_, rfl, by omega, fun v h1 h2 h3 => ?_⟩
  have hlt : v.toNat < Bs.length := by omega
  have e : atI Bs v = some Bs[v.toNat] := at_ v.toNat (by omega) (List.getElem?_eq_getElem hlt)
  walk_at "pw"
  exact q _ _ (List.getElem?_eq_getElem hlt)
end
end K
namespace K
open PySem PySem.Spec PyProof.Rows L2
section
open Pu
/-- what is no int -/
def oddP : List PyData := [.bool true, .bool false, .none, .str "", .str "0", .str "1", .str "a", .tuple [], .tuple [.int 0]]
def φ_kind (K : PySem.W.Frag) : PSp := fun As k _ => As = [] ∧ ∀ d : PyData, d ∈ oddP → LFd d → k (.v (D K d))
theorem odd_p : ∀ d ∈ oddP, field d = false ∧ whole d = false ∧ Vb.DOk 4 d ∧ LFd d := by
  intro d m
  simp only [oddP, List.mem_cons, List.not_mem_nil, or_false] at m
  rcases m with rfl | rfl | rfl | rfl | rfl | rfl | rfl | rfl | rfl
  · exact ⟨rfl, rfl, trivial, ⟨.bl _⟩⟩
  · exact ⟨rfl, rfl, trivial, ⟨.bl _⟩⟩
  · exact ⟨rfl, rfl, trivial, ⟨.non⟩⟩
  · exact ⟨rfl, rfl, trivial, ⟨.str _⟩⟩
  · exact ⟨rfl, rfl, trivial, ⟨.str _⟩⟩
  · exact ⟨rfl, rfl, trivial, ⟨.str _⟩⟩
  · exact ⟨rfl, rfl, trivial, ⟨.str _⟩⟩
  · exact ⟨rfl, rfl, ⟨by decide, fun d m => absurd m List.not_mem_nil⟩, ⟨.tup fun d m => absurd m List.not_mem_nil⟩⟩
  · refine ⟨rfl, rfl, ⟨by decide, fun d m => ?_⟩, ⟨.tup fun d m => ?_⟩⟩
    · rw [List.mem_singleton.mp m]
      exact trivial
    · rw [List.mem_singleton.mp m]
      exact .int _
theorem odd_r {lo hi : Int} {d : PyData} (m : d ∈ oddP) : inRange lo hi d = false := by
  have := (odd_p d m).2.1
  cases d <;> first | rfl | cases this
theorem range_no {lo hi n : Int} (h : n < lo ∨ hi < n) : inRange lo hi (.int n) = false := by
  cases e : inRange lo hi (.int n) with
  | false => rfl
  | true => have := inRange_int.mp e; omega
end
end K
namespace K
open PySem PySem.Spec PyProof.Rows L2
abbrev N__law_other_kind : List Str := ["store"]
theorem sc__law_other_kind : FnScope N__law_other_kind ["store"] (defScope s__law_other_kind) := ⟨rfl, rfl, rfl, by decide +kernel, rfl, by decide +kernel, by decide +kernel⟩
section
variable {P : Program} {w : World} {K : PySem.W.Frag} {mg : Str → Option Value} {base : Heap}
open Pu
theorem okp_kind (T : Txt K mg) : FnOk P w K mg base (L2N.CX P w) 4 T.f__law_other_kind T.fd__law_other_kind ["store"] (toSpS (φ_kind K)) := by
  have G__law_pick := okp_pick (P := P) (w := w) (base := base) T
  refine okPS T.d__law_other_kind.F sc__law_other_kind (by decide) (fun As k X h => by obtain ⟨rfl, _⟩ := h; rfl) fun cdv A outer s H E st c As kk X hr hX h => ?_
  obtain ⟨rfl, q⟩ := h
  refine ⟨_, (pss_one (ps_ret (pe_callS G__law_pick (hr.mono (by first | decide | omega)) (by rfl) T.d__law_pick.g T.d__law_pick.F.kp T.d__law_pick.b (fun σ => L2N.passAt (L2N.takes_of rfl rfl rfl rfl) σ) (pa_cons (pv 0) (pa_cons (pe_lst (pa_cons pe_bl (pa_cons pe_bl (pa_cons pe_non (pa_cons pe_str (pa_cons pe_str (pa_cons pe_str (pa_cons pe_str (pa_cons (pe_tup pa_nil) (pa_cons (pe_tup (pa_cons pe_int pa_nil)) pa_nil)))))))))) pa_nil))))), ?_⟩
  change Pu.W _ _ [.v (Pu.Rf st)] _
  walk_at "pw"
  refine ⟨_, _, rfl, SqOf.lst, by simp, by show 9 < 1000000; decide, fun i B h => ?_⟩
  have ret : ∀ {A : Asn} {d : PyData} [t : ToD K A d], d ∈ oddP → RetR (.v A) [.v (Rf st)] kk := fun {A d t} m => ret_w (B := D K d) (fun S v g => t.d S v g) (q d m (odd_p d m).2.2.2)
  have m := List.mem_of_getElem? h
  simp only [List.mem_cons, List.not_mem_nil, or_false] at m
  rcases m with rfl | rfl | rfl | rfl | rfl | rfl | rfl | rfl | rfl
  · exact ret (d := .bool true) (by simp [oddP])
  · exact ret (d := .bool false) (by simp [oddP])
  · exact ret (d := .none) (by simp [oddP])
  · exact ret (d := .str "") (by simp [oddP])
  · exact ret (d := .str "0") (by simp [oddP])
  · exact ret (d := .str "1") (by simp [oddP])
  · exact ret (d := .str "a") (by simp [oddP])
  · exact ret (d := .tuple []) (by simp [oddP])
  · exact ret (d := .tuple [.int 0]) (by simp [oddP])
end
end K
namespace K
open PySem PySem.Spec PyProof.Rows L2
abbrev N__law_bad_integer : List Str := ["store", "low", "high", "way"]
theorem sc__law_bad_integer : FnScope N__law_bad_integer ["store", "low", "high"] (defScope s__law_bad_integer) := ⟨rfl, rfl, rfl, by decide +kernel, rfl, by decide +kernel, by decide +kernel⟩
section
variable {P : Program} {w : World} {K : PySem.W.Frag} {mg : Str → Option Value} {base : Heap}
open Pu
def φ_badinteger (K : PySem.W.Frag) : PSp := fun As k _ => ∃ lo hi : Int, As = [I lo, I hi] ∧ lo ≤ hi ∧ ∀ d : PyData, inRange lo hi d = false → Vb.DOk 4 d → LFd d → k (.v (D K d))
theorem okp_badinteger (T : Txt K mg) : FnOk P w K mg base (L2N.CX P w) 5 T.f__law_bad_integer T.fd__law_bad_integer ["store", "low", "high"] (toSpS (φ_badinteger K)) := by
  have G__law_take := okp_take (P := P) (w := w) (base := base) T
  have G__law_pick := okp_pick (P := P) (w := w) (base := base) T
  have G__law_other_kind := okp_kind (P := P) (w := w) (base := base) T
  refine okPS T.d__law_bad_integer.F sc__law_bad_integer (by decide) (fun As k X h => by obtain ⟨lo, hi, rfl, _⟩ := h; rfl) fun cdv A outer s H E st c As kk X hr hX h => ?_
  obtain ⟨lo, hi, rfl, hb, q⟩ := h
  refine ⟨_, (pss_cons (ps_set (i := 3) sc__law_bad_integer.nd rfl (by first | exact Or.inl rfl | exact Or.inr rfl) (pe_callS G__law_take (hr.mono (by first | decide | omega)) (by rfl) T.d__law_take.g T.d__law_take.F.kp T.d__law_take.b (fun σ => L2N.passAt (L2N.takes_of rfl rfl rfl rfl) σ) (pa_cons (pv 0) (pa_cons pe_int pa_nil))))
      (pss_cons (ps_if (pt_cmpR op_eq (pv 3) pe_int (nomark _)) (pss_one (ps_ret (pe_op op_sub (pv 1) pe_int))) pss_nil)
      (pss_cons (ps_if (pt_cmpR op_eq (pv 3) pe_int (nomark _)) (pss_one (ps_ret (pe_op op_add (pv 2) pe_int))) pss_nil)
      (pss_cons (ps_if (pt_cmpR op_eq (pv 3) pe_int (nomark _)) (pss_one (ps_ret (pe_op op_sub (pe_op op_sub (pv 1) pe_int) (pe_callS G__law_take (hr.mono (by first | decide | omega)) (by rfl) T.d__law_take.g T.d__law_take.F.kp T.d__law_take.b (fun σ => L2N.passAt (L2N.takes_of rfl rfl rfl rfl) σ) (pa_cons (pv 0) (pa_cons pe_int pa_nil)))))) pss_nil)
      (pss_cons (ps_if (pt_cmpR op_eq (pv 3) pe_int (nomark _)) (pss_one (ps_ret (pe_op op_add (pe_op op_add (pv 2) pe_int) (pe_callS G__law_take (hr.mono (by first | decide | omega)) (by rfl) T.d__law_take.g T.d__law_take.F.kp T.d__law_take.b (fun σ => L2N.passAt (L2N.takes_of rfl rfl rfl rfl) σ) (pa_cons (pv 0) (pa_cons pe_int pa_nil)))))) pss_nil)
      (pss_cons (ps_if (pt_cmpR op_eq (pv 3) pe_int (nomark _)) (pss_one (ps_ret (pe_callS G__law_pick (hr.mono (by first | decide | omega)) (by rfl) T.d__law_pick.g T.d__law_pick.F.kp T.d__law_pick.b (fun σ => L2N.passAt (L2N.takes_of rfl rfl rfl rfl) σ) (pa_cons (pv 0) (pa_cons (pe_lst (pa_cons (pe_op op_add (pv 2) (pe_op Vb.op_powB pe_int pe_int)) (pa_cons (pe_op op_sub (pv 1) (pe_op Vb.op_powB pe_int pe_int)) pa_nil))) pa_nil))))) pss_nil)
      (pss_one (ps_ret (pe_callS G__law_other_kind (hr.mono (by first | decide | omega)) (by rfl) T.d__law_other_kind.g T.d__law_other_kind.F.kp T.d__law_other_kind.b (fun σ => L2N.passAt (L2N.takes_of rfl rfl rfl rfl) σ) (pa_cons (pv 0) pa_nil)))))))))), ?_⟩
  change Pu.W _ _ [.v (Pu.Rf st), .v (I lo), .v (I hi), .un] _
  have qi : ∀ {env : Ev} (n : Int), n < lo ∨ hi < n → RetR (.v (I n)) env kk := fun n h => ret_w (B := D K (.int n)) (fun S v g => by cases (show v = .int n from g); exact Dp.int n) (q _ (range_no h) trivial ⟨.int n⟩)
  walk_at "pw"
  refine ⟨_, rfl, by decide, fun v h1 h2 h3 => ?_⟩
  walk_at "pw"
  refine Vb.r_ite (fun hv => ?_) (fun hv => ?_)
  · walk_at "pr"
    exact qi _ (by omega)
  walk_at "pw"
  refine Vb.r_ite (fun hv => ?_) (fun hv => ?_)
  · walk_at "pr"
    exact qi _ (by omega)
  walk_at "pw"
  refine Vb.r_ite (fun hv => ?_) (fun hv => ?_)
  · walk_at "pr"
    refine ⟨_, rfl, by decide, fun t t1 _ _ => ?_⟩
    walk_at "pr"
    exact qi _ (by omega)
  walk_at "pw"
  refine Vb.r_ite (fun hv => ?_) (fun hv => ?_)
  · walk_at "pr"
    refine ⟨_, rfl, by decide, fun t t1 _ _ => ?_⟩
    walk_at "pr"
    exact qi _ (by omega)
  walk_at "pw"
  refine Vb.r_ite (fun hv => ?_) (fun hv => ?_)
  · walk_at "pr"
    refine ⟨_, _, rfl, SqOf.lst, by simp, by show 2 < 1000000; decide, fun i B h => ?_⟩
    have m := List.mem_of_getElem? h
    simp only [List.mem_cons, List.not_mem_nil, or_false] at m
    have big : (10 : Int) ^ Int.toNat 40 > 0 := by decide
    rcases m with rfl | rfl <;> exact qi _ (by omega)
  walk_at "pr"
  refine ⟨rfl, fun d m lf => ?_⟩
  walk_at "pw"
  exact q d (odd_r m) (odd_p d m).2.2.1 lf
end
end K
namespace K
open PySem PySem.Spec PyProof.Rows L2
abbrev N__law_bad_number : List Str := ["store", "prime"]
theorem sc__law_bad_number : FnScope N__law_bad_number ["store", "prime"] (defScope s__law_bad_number) := ⟨rfl, rfl, rfl, by decide +kernel, rfl, by decide +kernel, by decide +kernel⟩
section
variable {P : Program} {w : World} {K : PySem.W.Frag} {mg : Str → Option Value} {base : Heap}
open Pu
theorem range_field {p : Int} {d : PyData} (h : inRange 0 (p - 1) d = false) : inField p d = false := by
  cases d with
  | int n =>
    have h' : (decide (0 ≤ n) && decide (n ≤ p - 1)) = false := h
    show (decide (0 ≤ n) && decide (n < p)) = false
    rw [← h']
    congr 1
    exact decide_eq_decide.mpr (by omega)
  | _ => rfl
def φ_badnumber (K : PySem.W.Frag) : PSp := fun As k _ => ∃ p : Int, As = [I p] ∧ 1 ≤ p ∧ ∀ d : PyData, inField p d = false → Vb.DOk 4 d → LFd d → k (.v (D K d))
theorem okp_badnumber (T : Txt K mg) : FnOk P w K mg base (L2N.CX P w) 6 T.f__law_bad_number T.fd__law_bad_number ["store", "prime"] (toSpS (φ_badnumber K)) := by
  have G__law_bad_integer := okp_badinteger (P := P) (w := w) (base := base) T
  refine okPS T.d__law_bad_number.F sc__law_bad_number (by decide) (fun As k X h => by obtain ⟨p, rfl, _⟩ := h; rfl) fun cdv A outer s H E st c As kk X hr hX h => ?_
  obtain ⟨p, rfl, hp, q⟩ := h
  refine ⟨_, (pss_one (ps_ret (pe_callS G__law_bad_integer (hr.mono (by first | decide | omega)) (by rfl) T.d__law_bad_integer.g T.d__law_bad_integer.F.kp T.d__law_bad_integer.b (fun σ => L2N.passAt (L2N.takes_of rfl rfl rfl rfl) σ) (pa_cons (pv 0) (pa_cons pe_int (pa_cons (pe_op op_sub (pv 1) pe_int) pa_nil)))))), ?_⟩
  change Pu.W _ _ [.v (Pu.Rf st), .v (I p)] _
  walk_at "pw"
  refine ⟨_, _, rfl, by omega, fun d h1 h2 lf => ?_⟩
  walk_at "pw"
  exact q d (range_field h1) h2 lf
end
end K
namespace K
open PySem PySem.Spec PyProof.Rows L2

abbrev N__law_primes : List Str := ["limit", "primes", "number", "divided", "prime"]
theorem sc__law_primes : FnScope N__law_primes ["limit"] (defScope s__law_primes) := ⟨rfl, rfl, rfl, by decide +kernel, rfl, by decide +kernel, by decide +kernel⟩
section
variable {P : Program} {w : World} {K : PySem.W.Frag} {mg : Str → Option Value} {base : Heap}
def sp_primes (K : PySem.W.Frag) : Sp := fun vs H Q _ => ∃ (n : Int), vs = [.int n] ∧ 1 ≤ n ∧ n ≤ 10000 ∧ ∀ (p : Addr) (H' : Hp), H p = none → Same H H' → H' p = some (.lst ((Vb.upto n).map V.int)) → Q (.ref p) H'
theorem use_primes {n : Int} {H : Hp} {Q : VK} {E : XK} (h1 : 1 ≤ n) (h : n ≤ 10000) (q : ∀ (p : Addr) (H' : Hp), H p = none → Same H H' → H' p = some (.lst ((Vb.upto n).map V.int)) → Q (.ref p) H') : sp_primes K [.int n] H Q E := ⟨n, rfl, h1, h, q⟩
theorem ok_primes (T : Txt K mg) : FnOk P w K mg base (L2N.CX P w) 1 T.f__law_primes T.fd__law_primes ["limit"] (sp_primes K) := by
  refine Vb.okN T.d__law_primes.F sc__law_primes (fun vs H Q E h => ?_) (fun cdv A outer s H vs Q E hr h => ?_)
  · obtain ⟨a, rfl, _⟩ := h
    rfl
  · obtain ⟨n, rfl, hn1, hn, q⟩ := h
    refine ⟨_, (pss_cons (ps_set (i := 1) sc__law_primes.nd rfl (by first | exact Or.inl rfl | exact Or.inr rfl) (pe_lst pa_nil))
      (pss_cons (ps_for (L2.passes_of rfl) rfl (Vb.pi_rangeW rfl T.n_range (pa_cons pe_int (pa_cons (pe_op op_add (pv 0) pe_int) pa_nil))) (pg_name (i := 2) sc__law_primes.nd rfl (by first | exact Or.inl rfl | exact Or.inr rfl))
        (pss_cons (ps_set (i := 3) sc__law_primes.nd rfl (by first | exact Or.inl rfl | exact Or.inr rfl) pe_bl)
      (Evl.pss_cut (ps_for (L2.passes_of rfl) rfl (pi_list (pv 1)) (pg_name (i := 4) sc__law_primes.nd rfl (by first | exact Or.inl rfl | exact Or.inr rfl))
        (pss_cons (ps_if (pt_cmpR op_gt (pe_op op_mul (pv 4) (pv 4)) (pv 2) (nomark _)) (pss_one ps_break) pss_nil)
      (pss_one (ps_if (pt_cmpR op_eq (pe_op op_mod (pv 2) (pv 4)) pe_int (nomark _)) (pss_cons (ps_set (i := 3) sc__law_primes.nd rfl (by first | exact Or.inl rfl | exact Or.inr rfl) pe_bl)
      (pss_one ps_break)) pss_nil))))
      (pss_one (ps_if (pt_not (pt_val (pv 3))) (pss_one (ps_expr (pe_bm PySem.F.plainAttrs_list PySem.F.slot_list_append PySem.F.type_list_append mt_append (pv 1) (pa_cons (pv 2) pa_nil)))) pss_nil)))))
      (pss_one (ps_ret (pv 1))))), ?_⟩
    (change (_ : L2.TS) _ ([some (.int n), none, none, none, none] : L2.St) _); try dsimp only [L2.cxOf, L2H.cxH]
    walk_at "rd"
    refine ⟨Vb.size_ok (Nat.zero_le _), fun p hp => ?_⟩
    walk_at "rd"
    refine Vb.lp_range (fun i σ H' => i ≤ (n + 1 - 2).toNat ∧ Same H H' ∧ H' p = some (.lst ((Vb.upto (1 + i)).map V.int)) ∧ ∃ y2 y3 y4, σ = [some (.int n), some (.ref p), y2, y3, y4]) ⟨Nat.zero_le _, Vb.same_new hp, ?_, none, none, none, rfl⟩ ?_ ?_
    · rw [Vb.upto_low (by omega)]
      exact upd_same
    · rintro i σ H' hi ⟨_, e, ha, y2, y3, y4, rfl⟩
      have hl := Vb.upto_len (n := 1 + i)
      have hnx := Vb.upto_next (n := 1 + i) (by omega)
      rw [show (1 : Int) + i + 1 = 2 + i by omega] at hnx
      walk_at "rd"
      refine Vb.r_cut (fun σ' H2 => H2 = H' ∧ ∃ y, σ' = [some (.int n), some (.ref p), some (.int (2 + i)), some (.bl (!Vb.isP (2 + i))), y]) ?_ ?_
      · walk_at "rd"
        refine Vb.lp_list (xs := (Vb.upto (1 + i)).map V.int) (fun j σ' H2 => H2 = H' ∧ (∀ k q, k < j → (Vb.upto (1 + i))[k]? = some q → (2 + (i : Int)) % q ≠ 0) ∧ ∃ y, σ' = [some (.int n), some (.ref p), some (.int (2 + i)), some (.bl false), y]) ⟨rfl, fun k q h => absurd h (Nat.not_lt_zero k), y4, rfl⟩ (fun j σ' H2 _ c => by rw [c.1]; exact Vb.sq_of ha) ?_ ?_
        · rintro j x σ' H2 hj ⟨rfl, hk, y, rfl⟩
          obtain ⟨q, hq, rfl⟩ := Vb.getV' hj
          obtain ⟨pq, lq⟩ := Vb.mem_upto.mp (List.mem_of_getElem? hq)
          have q2 := pq.1
          walk_at "rd"
          refine Vb.r_ite (fun c => ?_) (fun c => ?_)
          · walk_at "rd"
            have e : Vb.isP (2 + i) = true := (Vb.isP_iff _).mpr (Vb.prm_root (by omega) q2 c fun d a b z => by
              obtain ⟨r, pr, lr, zr⟩ := Vb.least_prime d.toNat _ d (Nat.le_refl _) a z
              obtain ⟨k, hkj, hkr⟩ := Vb.sorted_ahead (Vb.upto_sorted _) hq (Vb.mem_upto.mpr ⟨pr, by omega⟩) (show r < q by omega)
              exact hk k r hkj hkr zr)
            rw [e]
            exact ⟨rfl, _, rfl⟩
          · walk_at "rd"
            refine Vb.r_ite (fun c2 => ?_) (fun c2 => ?_)
            · walk_at "rd"
              have e : Vb.isP (2 + i) = false := by
                cases z : Vb.isP (2 + i) with
                | false => rfl
                | true => exact absurd ((Vb.isP_iff _).mp z) (Vb.not_prm q2 (by omega) c2)
              rw [e]
              exact ⟨rfl, _, rfl⟩
            · walk_at "rd"
              refine ⟨rfl, fun k r hk' hr' => ?_, _, rfl⟩
              by_cases z : k = j
              · rw [z, hq] at hr'
                cases hr'
                exact c2
              · exact hk k r (by omega) hr'
        · rintro σ' H2 ⟨rfl, hk, y, rfl⟩
          have e : Vb.isP (2 + i) = true := (Vb.isP_iff _).mpr (Vb.prm_of (by omega) fun r pr lr => by
            obtain ⟨k, hkr⟩ := List.mem_iff_getElem?.mp (Vb.mem_upto.mpr ⟨pr, show r ≤ 1 + i by omega⟩)
            refine hk k r ?_ hkr
            rw [List.length_map]
            exact (List.getElem?_eq_some_iff.mp hkr).1)
          rw [e]
          exact ⟨rfl, _, rfl⟩
      · rintro σ' H2 ⟨rfl, y, rfl⟩
        walk_at "rd"
        rw [Bool.not_not]
        refine Vb.r_iteb (fun c => ?_) (fun c => ?_)
        · walk_at "rd"
          refine ⟨by omega, Vb.same_mut e hp, ?_, _, _, _, rfl⟩
          rw [show (1 : Int) + ((i + 1 : Nat) : Int) = 2 + i by omega, hnx, c, if_pos rfl, List.map_append]
          exact upd_same
        · refine ⟨by omega, e, ?_, _, _, _, rfl⟩
          rw [show (1 : Int) + ((i + 1 : Nat) : Int) = 2 + i by omega, hnx, c, if_neg (by decide), List.append_nil]
          exact ha
    · rintro σ H' ⟨_, e, ha, y2, y3, y4, rfl⟩
      walk_at "rd"
      refine q p H' hp e ?_
      rw [ha, show (1 : Int) + ((n + 1 - 2).toNat : Nat) = n by omega]
end
end K
namespace K
open PySem PySem.Spec PyProof.Rows L2
abbrev N__law_prime : List Str := ["store", "primes"]
theorem sc__law_prime : FnScope N__law_prime ["store"] (defScope s__law_prime) := ⟨rfl, rfl, rfl, by decide +kernel, rfl, by decide +kernel, by decide +kernel⟩
section
variable {P : Program} {w : World} {K : PySem.W.Frag} {mg : Str → Option Value} {base : Heap}
/-- a prime of a field -/
def sp_prime (K : PySem.W.Frag) : Sp := fun vs H Q _ => ∃ (st : Addr), vs = [.ref st] ∧ Vb.StoreAt H st ∧ ∀ (p : Int) (H' : Hp), Vb.Prm p → p ≤ 101 → Vb.Fr st H H' → Vb.StoreAt H' st → Q (.int p) H'
theorem use_prime {st : Addr} {H : Hp} {Q : VK} {E : XK} (h1 : Vb.StoreAt H st) (h : ∀ (p : Int) (H' : Hp), Vb.Prm p → p ≤ 101 → Vb.Fr st H H' → Vb.StoreAt H' st → Q (.int p) H') : sp_prime K [.ref st] H Q E := ⟨st, rfl, h1, h⟩
theorem ok_prime (T : Txt K mg) : FnOk P w K mg base (L2N.CX P w) 4 T.f__law_prime T.fd__law_prime ["store"] (sp_prime K) := by
  have G__law_primes := ok_primes (P := P) (w := w) (base := base) T
  have G__law_edge := ok_edge (P := P) (w := w) (base := base) T
  refine Vb.okN T.d__law_prime.F sc__law_prime (fun vs H Q E h => ?_) (fun cdv A outer s H vs Q E hr h => ?_)
  · obtain ⟨a, rfl, _⟩ := h
    rfl
  · obtain ⟨st, rfl, hS, q⟩ := h
    refine ⟨_, (pss_cons (ps_set (i := 1) sc__law_prime.nd rfl (by first | exact Or.inl rfl | exact Or.inr rfl) (pe_callS G__law_primes (hr.mono (by first | decide | omega)) (by rfl) T.d__law_primes.g T.d__law_primes.F.kp T.d__law_primes.b (fun σ => L2N.passAt (L2N.takes_of rfl rfl rfl rfl) σ) (pa_cons pe_int pa_nil)))
      (pss_one (ps_ret (pe_ix ix_list (pv 1) (pe_callS G__law_edge (hr.mono (by first | decide | omega)) (by rfl) T.d__law_edge.g T.d__law_edge.F.kp T.d__law_edge.b (fun σ => L2N.passAt (L2N.takes_of rfl rfl rfl rfl) σ) (pa_cons (pv 0) (pa_cons pe_int (pa_cons (pe_op op_sub (pe_callB Vb.call_len (by rfl) T.n_len (by decide +kernel) (pa_cons (pv 1) pa_nil)) pe_int) pa_nil)))) (fun _ _ => rfl))))), ?_⟩
    (change (_ : L2.TS) _ ([some (.ref st), none] : L2.St) _); try dsimp only [L2.cxOf, L2H.cxH]
    walk_at "rd"
    refine use_primes (by decide) (by decide) fun p H1 np e1 hp => ?_
    walk_at "rd"
    have hl := Vb.upto_len (n := 101)
    have h0 : 0 < (Vb.upto 101).length := List.length_pos_of_mem (Vb.mem_upto.mpr ⟨(Vb.isP_iff 2).mp (by decide +kernel), by decide⟩)
    refine use_edge (hS.same e1) (by rw [List.length_map]; omega) fun v H2 a1 a2 _ f2 S2 => ?_
    rw [List.length_map] at a2
    have hlt : v.toNat < (Vb.upto 101).length := by omega
    refine Vb.r_ixL (Vb.sq_of (f2.k _ _ (hS.ne np) hp)) (Vb.at_lit v.toNat (by omega) (Vb.getV hlt)) ?_
    obtain ⟨g1, g2⟩ := Vb.mem_upto.mp (List.getElem_mem hlt)
    exact q _ _ g1 g2 ((Vb.Fr.of e1).trans f2) S2
end
end K
namespace K
open PySem PySem.Spec PyProof.Rows L2
section
variable {P : Program} {w : World} {K : PySem.W.Frag} {mg : Str → Option Value} {base : Heap}
open Pu
def φ_prime : PSp := fun As k _ => As = [] ∧ ∀ p : Int, Vb.Prm p → p ≤ 101 → k (.v (I p))
theorem okp_prime (T : Txt K mg) : FnOk P w K mg base (L2N.CX P w) 4 T.f__law_prime T.fd__law_prime ["store"] (toSpS φ_prime) := (ok_prime T).imp fun vs H Q E h => by
  obtain ⟨st, us, rfl, B, As, k, X, ⟨rfl, q⟩, b, a, s, q1, _⟩ := h
  cases zero a
  exact ⟨st, rfl, (s st rfl).1, fun v H' h1 h2 f S => q1 B _ _ H' (q v h1 h2) (nxt_fr b (s st rfl).2 f S) rfl⟩
end
end K
namespace K
open PySem PySem.Spec PyProof.Rows L2
abbrev N__law_bad_prime : List Str := ["store", "way"]
theorem sc__law_bad_prime : FnScope N__law_bad_prime ["store"] (defScope s__law_bad_prime) := ⟨rfl, rfl, rfl, by decide +kernel, rfl, by decide +kernel, by decide +kernel⟩
section
variable {P : Program} {w : World} {K : PySem.W.Frag} {mg : Str → Option Value} {base : Heap}
open Pu
def φ_badprime (K : PySem.W.Frag) : PSp := fun As k _ => As = [] ∧ ∀ d : PyData, field d = false → Vb.DOk 4 d → LFd d → k (.v (D K d))
theorem notP_mul {a b : Int} (ha : 2 ≤ a) (hb : 2 ≤ b) : field (.int (a * b)) = false := by
  show (decide (a * b ≤ 101) && Vb.isP (a * b)) = false
  rw [Bool.and_eq_false_iff]
  refine .inr (Bool.eq_false_iff.mpr fun h => ?_)
  have p := (Vb.isP_iff _).mp h
  refine p.2 a ha ?_ (Int.mul_emod_right a b)
  have := Int.mul_le_mul_of_nonneg_left hb (show 0 ≤ a by omega)
  omega
theorem notP_low {a : Int} (h : a < 2) : field (.int a) = false := by
  show (decide (a ≤ 101) && Vb.isP a) = false
  rw [Bool.and_eq_false_iff]
  exact .inr (Bool.eq_false_iff.mpr fun g => by have := ((Vb.isP_iff _).mp g).1; omega)
theorem notP_high {a : Int} (h : 101 < a) : field (.int a) = false := by
  show (decide (a ≤ 101) && Vb.isP a) = false
  rw [decide_eq_false (by omega)]
  rfl
theorem okp_badprime (T : Txt K mg) : FnOk P w K mg base (L2N.CX P w) 5 T.f__law_bad_prime T.fd__law_bad_prime ["store"] (toSpS (φ_badprime K)) := by
  have G__law_take := okp_take (P := P) (w := w) (base := base) T
  have G__law_prime := okp_prime (P := P) (w := w) (base := base) T
  have G__law_other_kind := okp_kind (P := P) (w := w) (base := base) T
  refine okPS T.d__law_bad_prime.F sc__law_bad_prime (by decide) (fun As k X h => by obtain ⟨rfl, _⟩ := h; rfl) fun cdv A outer s H E st c As kk X hr hX h => ?_
  obtain ⟨rfl, q⟩ := h
  refine ⟨_, (pss_cons (ps_set (i := 1) sc__law_bad_prime.nd rfl (by first | exact Or.inl rfl | exact Or.inr rfl) (pe_callS G__law_take (hr.mono (by first | decide | omega)) (by rfl) T.d__law_take.g T.d__law_take.F.kp T.d__law_take.b (fun σ => L2N.passAt (L2N.takes_of rfl rfl rfl rfl) σ) (pa_cons (pv 0) (pa_cons pe_int pa_nil))))
      (pss_cons (ps_if (pt_cmpR op_eq (pv 1) pe_int (nomark _)) (pss_one (ps_ret (pe_op op_mul (pe_op op_add pe_int (pe_callS G__law_take (hr.mono (by first | decide | omega)) (by rfl) T.d__law_take.g T.d__law_take.F.kp T.d__law_take.b (fun σ => L2N.passAt (L2N.takes_of rfl rfl rfl rfl) σ) (pa_cons (pv 0) (pa_cons pe_int pa_nil)))) (pe_op op_add pe_int (pe_callS G__law_take (hr.mono (by first | decide | omega)) (by rfl) T.d__law_take.g T.d__law_take.F.kp T.d__law_take.b (fun σ => L2N.passAt (L2N.takes_of rfl rfl rfl rfl) σ) (pa_cons (pv 0) (pa_cons pe_int pa_nil))))))) pss_nil)
      (pss_cons (ps_if (pt_cmpR op_eq (pv 1) pe_int (nomark _)) (pss_one (ps_ret (pe_callS G__law_take (hr.mono (by first | decide | omega)) (by rfl) T.d__law_take.g T.d__law_take.F.kp T.d__law_take.b (fun σ => L2N.passAt (L2N.takes_of rfl rfl rfl rfl) σ) (pa_cons (pv 0) (pa_cons pe_int pa_nil))))) pss_nil)
      (pss_cons (ps_if (pt_cmpR op_eq (pv 1) pe_int (nomark _)) (pss_one (ps_ret (pe_un un_neg (pe_callS G__law_prime (hr.mono (by first | decide | omega)) (by rfl) T.d__law_prime.g T.d__law_prime.F.kp T.d__law_prime.b (fun σ => L2N.passAt (L2N.takes_of rfl rfl rfl rfl) σ) (pa_cons (pv 0) pa_nil))))) pss_nil)
      (pss_cons (ps_if (pt_cmpR op_eq (pv 1) pe_int (nomark _)) (pss_one (ps_ret (pe_op op_add pe_int (pe_callS G__law_take (hr.mono (by first | decide | omega)) (by rfl) T.d__law_take.g T.d__law_take.F.kp T.d__law_take.b (fun σ => L2N.passAt (L2N.takes_of rfl rfl rfl rfl) σ) (pa_cons (pv 0) (pa_cons pe_int pa_nil)))))) pss_nil)
      (pss_cons (ps_if (pt_cmpR op_eq (pv 1) pe_int (nomark _)) (pss_one (ps_ret (pe_op op_add (pe_op Vb.op_powB pe_int pe_int) (pe_callS G__law_take (hr.mono (by first | decide | omega)) (by rfl) T.d__law_take.g T.d__law_take.F.kp T.d__law_take.b (fun σ => L2N.passAt (L2N.takes_of rfl rfl rfl rfl) σ) (pa_cons (pv 0) (pa_cons pe_int pa_nil)))))) pss_nil)
      (pss_cons (ps_if (pt_cmpR op_eq (pv 1) pe_int (nomark _)) (pss_one (ps_ret (pe_op op_sub (pe_un un_neg pe_int) (pe_op op_mul (pe_callS G__law_take (hr.mono (by first | decide | omega)) (by rfl) T.d__law_take.g T.d__law_take.F.kp T.d__law_take.b (fun σ => L2N.passAt (L2N.takes_of rfl rfl rfl rfl) σ) (pa_cons (pv 0) (pa_cons pe_int pa_nil))) (pe_op Vb.op_powB pe_int pe_int))))) pss_nil)
      (pss_cons (ps_if (pt_cmpR op_eq (pv 1) pe_int (nomark _)) (pss_one (ps_ret (pe_op op_mul (pe_callS G__law_prime (hr.mono (by first | decide | omega)) (by rfl) T.d__law_prime.g T.d__law_prime.F.kp T.d__law_prime.b (fun σ => L2N.passAt (L2N.takes_of rfl rfl rfl rfl) σ) (pa_cons (pv 0) pa_nil)) (pe_callS G__law_prime (hr.mono (by first | decide | omega)) (by rfl) T.d__law_prime.g T.d__law_prime.F.kp T.d__law_prime.b (fun σ => L2N.passAt (L2N.takes_of rfl rfl rfl rfl) σ) (pa_cons (pv 0) pa_nil))))) pss_nil)
      (pss_one (ps_ret (pe_callS G__law_other_kind (hr.mono (by first | decide | omega)) (by rfl) T.d__law_other_kind.g T.d__law_other_kind.F.kp T.d__law_other_kind.b (fun σ => L2N.passAt (L2N.takes_of rfl rfl rfl rfl) σ) (pa_cons (pv 0) pa_nil)))))))))))), ?_⟩
  change Pu.W _ _ [.v (Pu.Rf st), .un] _
  have big : (10 : Int) ^ Int.toNat 40 > 1000 := by decide
  have qi : ∀ {env : Ev} (n : Int), field (.int n) = false → RetR (.v (I n)) env kk := fun n h => ret_w (B := D K (.int n)) (fun S v g => by cases (show v = .int n from g); exact Dp.int n) (q _ h trivial ⟨.int n⟩)
  walk_at "pw"
  refine ⟨_, rfl, by decide, fun v h1 h2 h3 => ?_⟩
  walk_at "pw"
  refine Vb.r_ite (fun hv => ?_) (fun hv => ?_)
  · walk_at "pr"
    refine ⟨_, rfl, by decide, fun t t1 t2 _ => ?_⟩
    walk_at "pr"
    refine ⟨_, rfl, by decide, fun u u1 u2 _ => ?_⟩
    walk_at "pr"
    exact qi _ (notP_mul (by omega) (by omega))
  walk_at "pw"
  refine Vb.r_ite (fun hv => ?_) (fun hv => ?_)
  · walk_at "pr"
    refine ⟨_, rfl, by decide, fun t t1 t2 _ => ?_⟩
    walk_at "pr"
    exact qi _ (notP_low (by omega))
  walk_at "pw"
  refine Vb.r_ite (fun hv => ?_) (fun hv => ?_)
  · walk_at "pr"
    refine ⟨rfl, fun p hp hl => ?_⟩
    have := hp.1
    walk_at "pr"
    exact qi _ (notP_low (by omega))
  walk_at "pw"
  refine Vb.r_ite (fun hv => ?_) (fun hv => ?_)
  · walk_at "pr"
    refine ⟨_, rfl, by decide, fun t t1 t2 _ => ?_⟩
    walk_at "pr"
    exact qi _ (notP_high (by omega))
  walk_at "pw"
  refine Vb.r_ite (fun hv => ?_) (fun hv => ?_)
  · walk_at "pr"
    refine ⟨_, rfl, by decide, fun t t1 t2 _ => ?_⟩
    walk_at "pr"
    exact qi _ (notP_high (by omega))
  walk_at "pw"
  refine Vb.r_ite (fun hv => ?_) (fun hv => ?_)
  · walk_at "pr"
    refine ⟨_, rfl, by decide, fun t t1 t2 _ => ?_⟩
    have t3 := t2 (by decide)
    walk_at "pr"
    refine qi _ (notP_low ?_)
    have : t * 10 ^ Int.toNat 40 ≥ 0 := Int.mul_nonneg t1 (by omega)
    omega
  walk_at "pw"
  refine Vb.r_ite (fun hv => ?_) (fun hv => ?_)
  · walk_at "pr"
    refine ⟨rfl, fun p hp hl => ?_⟩
    have := hp.1
    walk_at "pr"
    refine ⟨rfl, fun r hr hl2 => ?_⟩
    have := hr.1
    walk_at "pr"
    exact qi _ (notP_mul (by omega) (by omega))
  walk_at "pr"
  refine ⟨rfl, fun d m lf => ?_⟩
  walk_at "pw"
  exact q d (odd_p d m).1 (odd_p d m).2.2.1 lf
end
end K
namespace K
open PySem PySem.Spec PyProof.Rows L2


abbrev N__law_same : List Str := ["actual", "expected", "fitting", "k"]
theorem sc__law_same : FnScope N__law_same ["actual", "expected"] (defScope s__law_same) := ⟨rfl, rfl, rfl, by decide +kernel, rfl, by decide +kernel, by decide +kernel⟩
section
variable {P : Program} {w : World} {K : PySem.W.Frag} {mg : Str → Option Value} {base : Heap}
/-- two values of one piece of data are told to be the same; n: how deep it is -/
def sp_same (K : PySem.W.Frag) : Nat → Sp
  | 0 => fun _ _ _ _ => False
  | n + 1 => fun vs H Q _ => ∃ (v u : V) (d : PyData), vs = [v, u] ∧ Dp K H v d ∧ Dp K H u d ∧ Vb.DOk (n + 1) d ∧ Q (.bl true) H
theorem use_same {n : Nat} {v u : V} {H : Hp} {Q : VK} {E : XK} (d : PyData) (h1 : Dp K H v d) (h2 : Dp K H u d) (h3 : Vb.DOk (n + 1) d) (q : Q (.bl true) H) : sp_same K (n + 1) [v, u] H Q E := ⟨v, u, d, rfl, h1, h2, h3, q⟩
/-- the loop over the items -/
theorem same_items {n : Nat} {H : Hp} {xs ys : List V} {ds : List PyData} (a : DpAll K H xs ds) (b : DpAll K H ys ds) (h : ∀ d ∈ ds, Vb.DOk n d) {i : Nat} (hi : i < ds.length) : ∃ x y d, xs[i]? = some x ∧ ys[i]? = some y ∧ Dp K H x d ∧ Dp K H y d ∧ Vb.DOk n d := by
  obtain ⟨x, e1, h1⟩ := Vb.dpa_at a (List.getElem?_eq_getElem hi)
  obtain ⟨y, e2, h2⟩ := Vb.dpa_at b (List.getElem?_eq_getElem hi)
  exact ⟨x, y, ds[i], e1, e2, h1, h2, h _ (List.getElem_mem hi)⟩
theorem not_non {H : Hp} {v : V} {d : PyData} (h : Dp K H v d) (hd : d ≠ .none) : decide (v = .non) = false := by
  cases h with
  | non => exact absurd rfl hd
  | _ => rfl
theorem ok_same (T : Txt K mg) : ∀ n, FnOk P w K mg base (L2N.CX P w) (n + 1) T.f__law_same T.fd__law_same ["actual", "expected"] (sp_same K n)
  | 0 => ⟨fun _ _ _ _ h => h.elim, fun _ _ _ _ _ _ _ _ _ _ _ _ _ h => h.elim⟩
  | n + 1 => by
    have G__law_same := ok_same T n
    refine Vb.okN T.d__law_same.F sc__law_same (fun vs H Q E h => ?_) (fun cdv A outer s H vs Q E hr h => ?_)
    · obtain ⟨v, u, d, rfl, _⟩ := h
      rfl
    · obtain ⟨v, u, d, rfl, h1, h2, h3, q⟩ := h
      refine ⟨_, (pss_cons (ps_if (PW.pt (pw_or (pt_cmpR Vb.op_isN (pv 1) pe_non (nomark _)) (pw_or1 (pt_cmpR Vb.op_isN (pv 0) pe_non (nomark _))))) (pss_one (ps_ret (pe_and (pe_cmpR Vb.op_isN (pv 1) pe_non (nomark _)) (pe_one (pe_cmpR Vb.op_isN (pv 0) pe_non (nomark _)))))) pss_nil)
      (pss_cons (ps_if (PW.pt (pw_or (pt_val (pe_callB call_isi (by rfl) T.n_isinstance (by decide +kernel) (pa_cons (pv 1) (pa_cons (pe_bltn (v := .ty "bool") (by rfl) T.n_bool (by decide +kernel) rfl) pa_nil)))) (pw_or1 (pt_val (pe_callB call_isi (by rfl) T.n_isinstance (by decide +kernel) (pa_cons (pv 0) (pa_cons (pe_bltn (v := .ty "bool") (by rfl) T.n_bool (by decide +kernel) rfl) pa_nil))))))) (pss_one (ps_ret (pe_and (pe_callB call_isi (by rfl) T.n_isinstance (by decide +kernel) (pa_cons (pv 1) (pa_cons (pe_bltn (v := .ty "bool") (by rfl) T.n_bool (by decide +kernel) rfl) pa_nil))) (pe_and (pe_callB call_isi (by rfl) T.n_isinstance (by decide +kernel) (pa_cons (pv 0) (pa_cons (pe_bltn (v := .ty "bool") (by rfl) T.n_bool (by decide +kernel) rfl) pa_nil))) (pe_one (pe_cmpR op_eq (pv 0) (pv 1) (nomark _))))))) pss_nil)
      (pss_cons (ps_if (pt_val (pe_callB call_isi (by rfl) T.n_isinstance (by decide +kernel) (pa_cons (pv 1) (pa_cons (pe_bltn (v := .ty "int") (by rfl) T.n_int (by decide +kernel) rfl) pa_nil)))) (pss_one (ps_ret (pe_and (pe_callB call_isi (by rfl) T.n_isinstance (by decide +kernel) (pa_cons (pv 0) (pa_cons (pe_bltn (v := .ty "int") (by rfl) T.n_int (by decide +kernel) rfl) pa_nil))) (pe_one (pe_cmpR op_eq (pv 0) (pv 1) (nomark _)))))) pss_nil)
      (pss_cons (ps_if (pt_val (pe_callB call_isi (by rfl) T.n_isinstance (by decide +kernel) (pa_cons (pv 1) (pa_cons (pe_bltn (v := .ty "str") (by rfl) T.n_str (by decide +kernel) rfl) pa_nil)))) (pss_one (ps_ret (pe_and (pe_callB call_isi (by rfl) T.n_isinstance (by decide +kernel) (pa_cons (pv 0) (pa_cons (pe_bltn (v := .ty "str") (by rfl) T.n_str (by decide +kernel) rfl) pa_nil))) (pe_one (pe_cmpR op_eq (pv 0) (pv 1) (nomark _)))))) pss_nil)
      (pss_cons (ps_if (pt_val (pe_callB call_isi (by rfl) T.n_isinstance (by decide +kernel) (pa_cons (pv 1) (pa_cons (pe_bltn (v := .ty "list") (by rfl) T.n_list (by decide +kernel) rfl) pa_nil)))) (pss_one (ps_set (i := 2) sc__law_same.nd rfl (by first | exact Or.inl rfl | exact Or.inr rfl) (pe_callB call_isi (by rfl) T.n_isinstance (by decide +kernel) (pa_cons (pv 0) (pa_cons (pe_bltn (v := .ty "list") (by rfl) T.n_list (by decide +kernel) rfl) pa_nil))))) (pss_one (ps_set (i := 2) sc__law_same.nd rfl (by first | exact Or.inl rfl | exact Or.inr rfl) (pe_and (pe_callB call_isi (by rfl) T.n_isinstance (by decide +kernel) (pa_cons (pv 1) (pa_cons (pe_bltn (v := .ty "tuple") (by rfl) T.n_tuple (by decide +kernel) rfl) pa_nil))) (pe_one (pe_callB call_isi (by rfl) T.n_isinstance (by decide +kernel) (pa_cons (pv 0) (pa_cons (pe_bltn (v := .ty "tuple") (by rfl) T.n_tuple (by decide +kernel) rfl) pa_nil))))))))
      (pss_cons (ps_if (PW.pt (pw_or (pt_not (pt_val (pv 2))) (pw_or1 (pt_cmpR op_ne (pe_callB Vb.call_len (by rfl) T.n_len (by decide +kernel) (pa_cons (pv 0) pa_nil)) (pe_callB Vb.call_len (by rfl) T.n_len (by decide +kernel) (pa_cons (pv 1) pa_nil)) (nomark _))))) (pss_one (ps_ret pe_bl)) pss_nil)
      (pss_cons (ps_for (L2.passes_of rfl) rfl (pi_range1 rfl T.n_range (pa_cons (pe_callB Vb.call_len (by rfl) T.n_len (by decide +kernel) (pa_cons (pv 1) pa_nil)) pa_nil)) (pg_name (i := 3) sc__law_same.nd rfl (by first | exact Or.inl rfl | exact Or.inr rfl))
        (pss_one (ps_if (pt_not (pt_val (pe_callS G__law_same (hr.mono (by first | decide | omega)) (by rfl) T.d__law_same.g T.d__law_same.F.kp T.d__law_same.b (fun σ => L2N.passAt (L2N.takes_of rfl rfl rfl rfl) σ) (pa_cons (pe_ix ix_seq (pv 0) (pv 3) (fun _ _ => rfl)) (pa_cons (pe_ix ix_seq (pv 1) (pv 3) (fun _ _ => rfl)) pa_nil))))) (pss_one (ps_ret pe_bl)) pss_nil)))
      (pss_one (ps_ret pe_bl))))))))), ?_⟩
      (change (_ : L2.TS) _ ([some (v), some (u), none, none] : L2.St) _); try dsimp only [L2.cxOf, L2H.cxH]
      walk_at "rd"
      by_cases hn : d = .none
      · subst hn
        refine Vb.r_ite (fun _ => ?_) (fun c => absurd (Vb.is_non h2) c)
        walk_at "rd"
        refine Vb.r_ite (fun _ => ?_) (fun c => absurd (Vb.is_non h2) c)
        walk_at "rd"
        rw [decide_eq_true (Vb.is_non h1)]
        exact q
      refine Vb.r_ite (fun c => absurd c (Vb.not_non h2 hn)) (fun _ => ?_)
      walk_at "rd"
      refine Vb.r_ite (fun c => absurd c (Vb.not_non h1 hn)) (fun _ => ?_)
      cases d with
      | none => exact absurd rfl hn
      | bool b =>
        walk_at "rd"
        cases h1; cases h2
        refine ⟨rfl, ?_⟩
        rw [decide_eq_true rfl]
        exact q
      | int i =>
        walk_at "rd"
        cases h1; cases h2
        walk_at "rd"
        rw [decide_eq_true rfl]
        exact q
      | str x =>
        walk_at "rd"
        cases h1; cases h2
        refine ⟨rfl, ?_⟩
        rw [decide_eq_true rfl]
        exact q
      | list ds =>
        walk_at "rd"
        cases h1 with
        | @lst a xs _ s1 a1 =>
        cases h2 with
        | @lst b ys _ s2 a2 =>
        have l1 := Vb.dpa_len a1
        have l2 := Vb.dpa_len a2
        have hl := h3.1
        walk_at "rd"
        refine Vb.r_iteN (fun c => absurd (by omega) c) (fun _ => ?_)
        walk_at "rd"
        refine Vb.lp_range (fun i σ H' => i ≤ ds.length ∧ H' = H ∧ ∃ y, σ = [some (.ref a), some (.ref b), some (.bl true), y]) ⟨Nat.zero_le _, rfl, none, rfl⟩ ?_ ?_
        · rintro i σ H' hi ⟨_, rfl, y, rfl⟩
          have hi' : i < ds.length := by omega
          obtain ⟨x1, y1, d1, e1, e2, g1, g2, g3⟩ := same_items a1 a2 h3.2 hi'
          walk_at "rd"
          refine Vb.r_ixSL s1 (Vb.at_lit i (by omega) e1) ?_
          walk_at "rd"
          refine Vb.r_ixSL s2 (Vb.at_lit i (by omega) e2) ?_
          walk_at "rd"
          cases n with
          | zero => exact g3.elim
          | succ n =>
            refine use_same d1 g1 g2 g3 ?_
            walk_at "rd"
            exact ⟨by omega, rfl, _, rfl⟩
        · rintro σ H' ⟨_, rfl, y, rfl⟩
          walk_at "rd"
          exact q
      | tuple ds =>
        walk_at "rd"
        cases h1 with
        | @tup a xs _ s1 a1 =>
        cases h2 with
        | @tup b ys _ s2 a2 =>
        have l1 := Vb.dpa_len a1
        have l2 := Vb.dpa_len a2
        have hl := h3.1
        walk_at "rd"
        refine Vb.r_iteN (fun c => absurd (by omega) c) (fun _ => ?_)
        walk_at "rd"
        refine Vb.lp_range (fun i σ H' => i ≤ ds.length ∧ H' = H ∧ ∃ y, σ = [some (.ref a), some (.ref b), some (.bl true), y]) ⟨Nat.zero_le _, rfl, none, rfl⟩ ?_ ?_
        · rintro i σ H' hi ⟨_, rfl, y, rfl⟩
          have hi' : i < ds.length := by omega
          obtain ⟨x1, y1, d1, e1, e2, g1, g2, g3⟩ := same_items a1 a2 h3.2 hi'
          walk_at "rd"
          refine Vb.r_ixST s1 (Vb.at_lit i (by omega) e1) ?_
          walk_at "rd"
          refine Vb.r_ixST s2 (Vb.at_lit i (by omega) e2) ?_
          walk_at "rd"
          cases n with
          | zero => exact g3.elim
          | succ n =>
            refine use_same d1 g1 g2 g3 ?_
            walk_at "rd"
            exact ⟨by omega, rfl, _, rfl⟩
        · rintro σ H' ⟨_, rfl, y, rfl⟩
          walk_at "rd"
          exact q
      | dict kvs => cases h1
theorem okh_same (T : Txt K mg) : ∀ n, L2H.FnH P w K mg base CX0 (n + 1) T.f__law_same T.fd__law_same ["actual", "expected"] (sp_same K n)
  | 0 => ⟨fun _ _ _ _ h => h.elim, fun _ _ _ _ _ _ _ _ _ _ _ _ _ _ _ _ h => h.elim⟩
  | n + 1 => by
    have GH__law_same := okh_same T n
    refine Vb.okH T.d__law_same.F sc__law_same (fun vs H Q E h => ?_) (fun cdv A outer s H vs Q E p hot hr h => ?_)
    · obtain ⟨v, u, d, rfl, _⟩ := h
      rfl
    · obtain ⟨v, u, d, rfl, h1, h2, h3, q⟩ := h
      have hotc : L2H.HotC (L2H.cxH CX0 P w K mg base N__law_same "_law_same" (defScope s__law_same) T.f__law_same cdv A outer s H E p) := ⟨p, hot, List.mem_singleton.mpr rfl⟩
      refine ⟨_, (pss_cons (ps_if (PW.pt (pw_or (pt_cmpR Vb.op_isN (pv 1) pe_non (nomark _)) (pw_or1 (pt_cmpR Vb.op_isN (pv 0) pe_non (nomark _))))) (pss_one (ps_ret (pe_and (pe_cmpR Vb.op_isN (pv 1) pe_non (nomark _)) (pe_one (pe_cmpR Vb.op_isN (pv 0) pe_non (nomark _)))))) pss_nil)
      (pss_cons (ps_if (PW.pt (pw_or (pt_val (pe_callB call_isi (by rfl) T.n_isinstance (by decide +kernel) (pa_cons (pv 1) (pa_cons (pe_bltn (v := .ty "bool") (by rfl) T.n_bool (by decide +kernel) rfl) pa_nil)))) (pw_or1 (pt_val (pe_callB call_isi (by rfl) T.n_isinstance (by decide +kernel) (pa_cons (pv 0) (pa_cons (pe_bltn (v := .ty "bool") (by rfl) T.n_bool (by decide +kernel) rfl) pa_nil))))))) (pss_one (ps_ret (pe_and (pe_callB call_isi (by rfl) T.n_isinstance (by decide +kernel) (pa_cons (pv 1) (pa_cons (pe_bltn (v := .ty "bool") (by rfl) T.n_bool (by decide +kernel) rfl) pa_nil))) (pe_and (pe_callB call_isi (by rfl) T.n_isinstance (by decide +kernel) (pa_cons (pv 0) (pa_cons (pe_bltn (v := .ty "bool") (by rfl) T.n_bool (by decide +kernel) rfl) pa_nil))) (pe_one (pe_cmpR op_eq (pv 0) (pv 1) (nomark _))))))) pss_nil)
      (pss_cons (ps_if (pt_val (pe_callB call_isi (by rfl) T.n_isinstance (by decide +kernel) (pa_cons (pv 1) (pa_cons (pe_bltn (v := .ty "int") (by rfl) T.n_int (by decide +kernel) rfl) pa_nil)))) (pss_one (ps_ret (pe_and (pe_callB call_isi (by rfl) T.n_isinstance (by decide +kernel) (pa_cons (pv 0) (pa_cons (pe_bltn (v := .ty "int") (by rfl) T.n_int (by decide +kernel) rfl) pa_nil))) (pe_one (pe_cmpR op_eq (pv 0) (pv 1) (nomark _)))))) pss_nil)
      (pss_cons (ps_if (pt_val (pe_callB call_isi (by rfl) T.n_isinstance (by decide +kernel) (pa_cons (pv 1) (pa_cons (pe_bltn (v := .ty "str") (by rfl) T.n_str (by decide +kernel) rfl) pa_nil)))) (pss_one (ps_ret (pe_and (pe_callB call_isi (by rfl) T.n_isinstance (by decide +kernel) (pa_cons (pv 0) (pa_cons (pe_bltn (v := .ty "str") (by rfl) T.n_str (by decide +kernel) rfl) pa_nil))) (pe_one (pe_cmpR op_eq (pv 0) (pv 1) (nomark _)))))) pss_nil)
      (pss_cons (ps_if (pt_val (pe_callB call_isi (by rfl) T.n_isinstance (by decide +kernel) (pa_cons (pv 1) (pa_cons (pe_bltn (v := .ty "list") (by rfl) T.n_list (by decide +kernel) rfl) pa_nil)))) (pss_one (ps_set (i := 2) sc__law_same.nd rfl (by first | exact Or.inl rfl | exact Or.inr rfl) (pe_callB call_isi (by rfl) T.n_isinstance (by decide +kernel) (pa_cons (pv 0) (pa_cons (pe_bltn (v := .ty "list") (by rfl) T.n_list (by decide +kernel) rfl) pa_nil))))) (pss_one (ps_set (i := 2) sc__law_same.nd rfl (by first | exact Or.inl rfl | exact Or.inr rfl) (pe_and (pe_callB call_isi (by rfl) T.n_isinstance (by decide +kernel) (pa_cons (pv 1) (pa_cons (pe_bltn (v := .ty "tuple") (by rfl) T.n_tuple (by decide +kernel) rfl) pa_nil))) (pe_one (pe_callB call_isi (by rfl) T.n_isinstance (by decide +kernel) (pa_cons (pv 0) (pa_cons (pe_bltn (v := .ty "tuple") (by rfl) T.n_tuple (by decide +kernel) rfl) pa_nil))))))))
      (pss_cons (ps_if (PW.pt (pw_or (pt_not (pt_val (pv 2))) (pw_or1 (pt_cmpR op_ne (pe_callB Vb.call_len (by rfl) T.n_len (by decide +kernel) (pa_cons (pv 0) pa_nil)) (pe_callB Vb.call_len (by rfl) T.n_len (by decide +kernel) (pa_cons (pv 1) pa_nil)) (nomark _))))) (pss_one (ps_ret pe_bl)) pss_nil)
      (pss_cons (L2H.ps_forH (L2.passes_of rfl) hotc (L2H.pi_range1H rfl T.n_range (pa_cons (pe_callB Vb.call_len (by rfl) T.n_len (by decide +kernel) (pa_cons (pv 1) pa_nil)) pa_nil)) (pg_name (i := 3) sc__law_same.nd rfl (by first | exact Or.inl rfl | exact Or.inr rfl))
        (pss_one (ps_if (pt_not (pt_val (L2H.pe_callH GH__law_same (hr.mono (by first | decide | omega)) hotc rfl T.d__law_same.g T.d__law_same.F.kp T.d__law_same.b (fun σ => Vb.passH) (pa_cons (pe_ix ix_seq (pv 0) (pv 3) (fun _ _ => rfl)) (pa_cons (pe_ix ix_seq (pv 1) (pv 3) (fun _ _ => rfl)) pa_nil))))) (pss_one (ps_ret pe_bl)) pss_nil)))
      (pss_one (ps_ret pe_bl))))))))), ?_⟩
      (change (_ : L2.TS) _ ([some (v), some (u), none, none] : L2.St) _); try dsimp only [L2.cxOf, L2H.cxH]
      walk_at "rd"
      by_cases hn : d = .none
      · subst hn
        refine Vb.r_ite (fun _ => ?_) (fun c => absurd (Vb.is_non h2) c)
        walk_at "rd"
        refine Vb.r_ite (fun _ => ?_) (fun c => absurd (Vb.is_non h2) c)
        walk_at "rd"
        rw [decide_eq_true (Vb.is_non h1)]
        exact q
      refine Vb.r_ite (fun c => absurd c (Vb.not_non h2 hn)) (fun _ => ?_)
      walk_at "rd"
      refine Vb.r_ite (fun c => absurd c (Vb.not_non h1 hn)) (fun _ => ?_)
      cases d with
      | none => exact absurd rfl hn
      | bool b =>
        walk_at "rd"
        cases h1; cases h2
        refine ⟨rfl, ?_⟩
        rw [decide_eq_true rfl]
        exact q
      | int i =>
        walk_at "rd"
        cases h1; cases h2
        walk_at "rd"
        rw [decide_eq_true rfl]
        exact q
      | str x =>
        walk_at "rd"
        cases h1; cases h2
        refine ⟨rfl, ?_⟩
        rw [decide_eq_true rfl]
        exact q
      | list ds =>
        walk_at "rd"
        cases h1 with
        | @lst a xs _ s1 a1 =>
        cases h2 with
        | @lst b ys _ s2 a2 =>
        have l1 := Vb.dpa_len a1
        have l2 := Vb.dpa_len a2
        have hl := h3.1
        walk_at "rd"
        refine Vb.r_iteN (fun c => absurd (by omega) c) (fun _ => ?_)
        walk_at "rd"
        refine Vb.lp_range (fun i σ H' => i ≤ ds.length ∧ H' = H ∧ ∃ y, σ = [some (.ref a), some (.ref b), some (.bl true), y]) ⟨Nat.zero_le _, rfl, none, rfl⟩ ?_ ?_
        · rintro i σ H' hi ⟨_, rfl, y, rfl⟩
          have hi' : i < ds.length := by omega
          obtain ⟨x1, y1, d1, e1, e2, g1, g2, g3⟩ := same_items a1 a2 h3.2 hi'
          walk_at "rd"
          refine Vb.r_ixSL s1 (Vb.at_lit i (by omega) e1) ?_
          walk_at "rd"
          refine Vb.r_ixSL s2 (Vb.at_lit i (by omega) e2) ?_
          walk_at "rd"
          cases n with
          | zero => exact g3.elim
          | succ n =>
            refine use_same d1 g1 g2 g3 ?_
            walk_at "rd"
            exact ⟨by omega, rfl, _, rfl⟩
        · rintro σ H' ⟨_, rfl, y, rfl⟩
          walk_at "rd"
          exact q
      | tuple ds =>
        walk_at "rd"
        cases h1 with
        | @tup a xs _ s1 a1 =>
        cases h2 with
        | @tup b ys _ s2 a2 =>
        have l1 := Vb.dpa_len a1
        have l2 := Vb.dpa_len a2
        have hl := h3.1
        walk_at "rd"
        refine Vb.r_iteN (fun c => absurd (by omega) c) (fun _ => ?_)
        walk_at "rd"
        refine Vb.lp_range (fun i σ H' => i ≤ ds.length ∧ H' = H ∧ ∃ y, σ = [some (.ref a), some (.ref b), some (.bl true), y]) ⟨Nat.zero_le _, rfl, none, rfl⟩ ?_ ?_
        · rintro i σ H' hi ⟨_, rfl, y, rfl⟩
          have hi' : i < ds.length := by omega
          obtain ⟨x1, y1, d1, e1, e2, g1, g2, g3⟩ := same_items a1 a2 h3.2 hi'
          walk_at "rd"
          refine Vb.r_ixST s1 (Vb.at_lit i (by omega) e1) ?_
          walk_at "rd"
          refine Vb.r_ixST s2 (Vb.at_lit i (by omega) e2) ?_
          walk_at "rd"
          cases n with
          | zero => exact g3.elim
          | succ n =>
            refine use_same d1 g1 g2 g3 ?_
            walk_at "rd"
            exact ⟨by omega, rfl, _, rfl⟩
        · rintro σ H' ⟨_, rfl, y, rfl⟩
          walk_at "rd"
          exact q
      | dict kvs => cases h1
end
end K
namespace K
open PySem PySem.Spec PyProof.Rows L2
section
variable {P : Program} {w : World} {K : PySem.W.Frag} {mg : Str → Option Value} {base : Heap}
open Pu
/-- two values of one piece of data are told to be the same -/
def φ_same (K : PySem.W.Frag) (n : Nat) : PSp := fun As k _ => ∃ (A B : Asn) (d : PyData), As = [A, B] ∧ (∀ S v, A.r S v → Dp K S v d) ∧ (∀ S v, B.r S v → Dp K S v d) ∧ Vb.DOk n d ∧ k (.v (Bo true))
theorem okp_same (T : Txt K mg) (n : Nat) : FnOk P w K mg base (L2N.CX P w) (n + 1) T.f__law_same T.fd__law_same ["actual", "expected"] (toSp (φ_same K n)) := (ok_same T n).imp fun vs H Q E h => by
  obtain ⟨B, As, k, X, ⟨A, A', d, rfl, h1, h2, h3, q⟩, b, a, s, q1, _⟩ := h
  obtain ⟨x, y, rfl, g1, g2⟩ := two a
  cases n with
  | zero => exact h3.elim
  | succ n => exact ⟨x, y, d, rfl, Vb.dp_same b _ _ (h1 _ _ g1), Vb.dp_same b _ _ (h2 _ _ g2), h3, q1 B _ _ H q (nxt_same b (Same.refl H)) rfl⟩
theorem use_sm {A B : Asn} {d : PyData} [a : ToD K A d] [b : ToD K B d] {n : Nat} {k : Rs → Prop} {X : XP} (h : Vb.DOk n d) (q : k (.v (Bo true))) : φ_same K n [A, B] k X := ⟨A, B, d, rfl, a.d, b.d, h, q⟩
end
end K
namespace K
open PySem PySem.Spec PyProof.Rows L2
section
variable {P : Program} {w : World} {K : PySem.W.Frag} {mg : Str → Option Value} {base : Heap}
open Pu
def φ_whole (K : PySem.W.Frag) : PSp := fun As k _ => ∃ (A : Asn) (d : PyData), As = [A] ∧ (∀ S v, A.r S v → Dp K S v d) ∧ k (.v (Bo (whole d)))
theorem okp_whole (T : Txt K mg) : FnOk P w K mg base (L2N.CX P w) 1 T.f_is_whole T.fd_is_whole ["value"] (toSp (φ_whole K)) := (ok_whole T).imp fun vs H Q E h => by
  obtain ⟨B, As, k, X, ⟨A, d, rfl, h1, q⟩, b, a, s, q1, _⟩ := h
  obtain ⟨x, rfl, g⟩ := one a
  exact ⟨x, d, rfl, Vb.dp_same b _ _ (h1 _ _ g), q1 B _ _ H q (nxt_same b (Same.refl H)) rfl⟩
theorem er_none {B : Hp} : Er B none [] := .inl ⟨rfl, rfl⟩
theorem er_val {S : Hp} {dd : Addr} {A : Asn} {x : V} (h : S dd = some (.xd [("value", x)])) (g : A.r S x) : Er S (some dd) [("value", A)] := .inr ⟨dd, _, rfl, h, rfl, g, trivial⟩
end
end K
namespace K
open PySem PySem.Spec PyProof.Rows L2
section
variable {P : Program} {w : World} {K : PySem.W.Frag} {mg : Str → Option Value} {base : Heap}
open Pu
theorem field_intP {n : Int} (h : field (.int n) = true) : Vb.Prm n ∧ n ≤ 101 := by
  have h' : (decide (n ≤ 101) && Vb.isP n) = true := h
  rw [Bool.and_eq_true] at h'
  exact ⟨(Vb.isP_iff n).mp h'.2, of_decide_eq_true h'.1⟩
/-- errors that carry a value -/
theorem raise_val {C : Addr} {φ : XP} {B H : Hp} {E : XK} {A : Asn} {x : V} (b : Same B H) (g : A.r B x) (hX : φ C [("value", A)]) (q2 : ∀ C fs d S H', φ C fs → Nxt none B H S H' → Er S d fs → E (.ref C) d H') {H1 : Hp} (e : Same H H1) {dd : Addr} (n : H1 dd = none) : E (.ref C) (some dd) (upd H1 dd (.xd [("value", x)])) := by
  have e2 := Vb.same_new (o := .xd [("value", x)]) n
  exact q2 C _ _ _ _ hX (nxt_new b (e.trans e2)) (er_val (bs_k b (e.trans e2) upd_same (.inl (e.free n))) (A.up (fun _ _ h => bs_b h) g))
def φ_checkprime (K : PySem.W.Frag) (C : Addr) : PSp := fun As k X => ∃ (A : Asn) (d : PyData), As = [A] ∧ (∀ S v, A.r S v → Dp K S v d) ∧ (field d = true → k (.v A)) ∧ (field d = false → X C [("value", A)])
theorem okp_checkprime (T : Txt K mg) : FnOk P w K mg base (L2N.CX P w) 3 T.f_check_prime T.fd_check_prime ["prime"] (toSp (φ_checkprime K T.C_NotPrime)) := (ok_check T).imp fun vs H Q E h => by
  obtain ⟨B, As, k, X, ⟨A, d, rfl, h1, q, q'⟩, b, a, s, q1, q2⟩ := h
  obtain ⟨x, rfl, g⟩ := one a
  exact ⟨x, d, rfl, Vb.dp_same b _ _ (h1 _ _ g), fun f => q1 B _ _ H (q f) (nxt_same b (Same.refl H)) g, fun f dd n => raise_val b g (q' f) q2 (Same.refl H) n⟩
end
end K
namespace K
open PySem PySem.Spec PyProof.Rows L2
abbrev N_check_number : List Str := ["prime", "value"]
theorem sc_check_number : FnScope N_check_number ["prime", "value"] (defScope s_check_number) := ⟨rfl, rfl, rfl, by decide +kernel, rfl, by decide +kernel, by decide +kernel⟩
section
variable {P : Program} {w : World} {K : PySem.W.Frag} {mg : Str → Option Value} {base : Heap}
def sp_checknum (K : PySem.W.Frag) (C : Addr) : Sp := fun vs H Q E => ∃ (p : Int) (v : V) (d : PyData), vs = [.int p, v] ∧ Dp K H v d ∧ (inField p d = true → Q .non H) ∧ (inField p d = false → ∀ dd : Addr, H dd = none → E (.ref C) (some dd) (upd H dd (.xd [("value", v)])))
theorem ok_checknum (T : Txt K mg) : FnOk P w K mg base (L2N.CX P w) 3 T.f_check_number T.fd_check_number ["prime", "value"] (sp_checknum K T.C_NotInField) := by
  have G_is_number := ok_number (P := P) (w := w) (base := base) T
  refine Vb.okN T.d_check_number.F sc_check_number (fun vs H Q E h => ?_) (fun cdv A outer s H vs Q E hr h => ?_)
  · obtain ⟨a, b, c, rfl, _⟩ := h
    rfl
  · obtain ⟨p, v, d, rfl, hd, q1, q2⟩ := h
    refine ⟨_, (pss_one (ps_if (pt_not (pt_val (pe_callS G_is_number (hr.mono (by first | decide | omega)) (by rfl) T.d_is_number.g T.d_is_number.F.kp T.d_is_number.b (fun σ => L2N.passAt (L2N.takes_of rfl rfl rfl rfl) σ) (pa_cons (pv 0) (pa_cons (pv 1) pa_nil))))) (pss_one (L2N.ps_raise rfl (L2N.takes_of rfl rfl rfl rfl) (L2.pmk_value T.i_NotInField (hr.mono (by decide) : Room 1 _) (by exact (pa_cons (pv 1) pa_nil)) rfl))) pss_nil)), ?_⟩
    (change (_ : L2.TS) _ ([some (.int p), some (v)] : L2.St) _); try dsimp only [L2.cxOf, L2H.cxH]
    walk_at "rd"
    cases hw : inField p d with
    | false =>
      refine use_number hd hw ?_
      walk_at "rd"
      exact ⟨_, rfl, _, rfl, fun dd n => q2 hw dd n⟩
    | true =>
      refine use_number hd hw ?_
      walk_at "rd"
      exact q1 hw
end
end K
namespace K
open PySem PySem.Spec PyProof.Rows L2
abbrev N_check_range : List Str := ["value", "least", "most"]
theorem sc_check_range : FnScope N_check_range ["value", "least", "most"] (defScope s_check_range) := ⟨rfl, rfl, rfl, by decide +kernel, rfl, by decide +kernel, by decide +kernel⟩
section
variable {P : Program} {w : World} {K : PySem.W.Frag} {mg : Str → Option Value} {base : Heap}
def sp_checkrange (K : PySem.W.Frag) (C : Addr) : Sp := fun vs H Q E => ∃ (v : V) (lo hi : Int) (d : PyData), vs = [v, .int lo, .int hi] ∧ Dp K H v d ∧ (inRange lo hi d = true → Q .non H) ∧ (inRange lo hi d = false → E (.ref C) none H)
theorem ok_checkrange (T : Txt K mg) : FnOk P w K mg base (L2N.CX P w) 2 T.f_check_range T.fd_check_range ["value", "least", "most"] (sp_checkrange K T.C_OutOfRange) := by
  have G_is_whole := ok_whole (P := P) (w := w) (base := base) T
  refine Vb.okN T.d_check_range.F sc_check_range (fun vs H Q E h => ?_) (fun cdv A outer s H vs Q E hr h => ?_)
  · obtain ⟨a, b, c, d, rfl, _⟩ := h
    rfl
  · obtain ⟨v, lo, hi, d, rfl, hd, q1, q2⟩ := h
    refine ⟨_, (pss_one (ps_if (PW.pt (pw_or (pt_not (pt_val (pe_callS G_is_whole (hr.mono (by first | decide | omega)) (by rfl) T.d_is_whole.g T.d_is_whole.F.kp T.d_is_whole.b (fun σ => L2N.passAt (L2N.takes_of rfl rfl rfl rfl) σ) (pa_cons (pv 0) pa_nil)))) (pw_or1 (pt_not (pt_chain op_le op_le (pv 1) (pv 0) (pv 2)))))) (pss_one (L2N.ps_raise rfl (L2N.takes_of rfl rfl rfl rfl) (Vb.pmk0 T.x_OutOfRange rfl))) pss_nil)), ?_⟩
    (change (_ : L2.TS) _ ([some (v), some (.int lo), some (.int hi)] : L2.St) _); try dsimp only [L2.cxOf, L2H.cxH]
    walk_at "rd"
    cases hw : whole d with
    | false =>
      refine use_whole hd hw ?_
      walk_at "rd"
      have hf : inRange lo hi d = false := by cases d <;> first | rfl | cases hw
      exact q2 hf
    | true =>
      refine use_whole hd hw ?_
      cases d <;> first | (cases hw; done) | skip
      rename_i n
      cases hd
      walk_at "rd"
      have e : inRange lo hi (.int n) = (decide (lo ≤ n) && decide (n ≤ hi)) := rfl
      rw [e] at q1 q2
      refine Vb.r_ite (fun c => ?_) (fun c => ?_)
      · rw [decide_eq_true c] at q1 q2
        walk_at "rd"
        cases c2 : decide (n ≤ hi) with
        | true =>
          rw [c2] at q1
          walk_at "rd"
          exact q1 rfl
        | false =>
          rw [c2] at q2
          walk_at "rd"
          exact q2 rfl
      · rw [decide_eq_false c] at q2
        walk_at "rd"
        exact q2 rfl
end
end K
namespace K
open PySem PySem.Spec PyProof.Rows L2
abbrev N_check_at_most : List Str := ["row", "most"]
theorem sc_check_at_most : FnScope N_check_at_most ["row", "most"] (defScope s_check_at_most) := ⟨rfl, rfl, rfl, by decide +kernel, rfl, by decide +kernel, by decide +kernel⟩
section
variable {P : Program} {w : World} {K : PySem.W.Frag} {mg : Str → Option Value} {base : Heap}
def sp_atmost (K : PySem.W.Frag) (L : Addr) : Sp := fun vs H Q E => ∃ (r : Addr) (xs : List V) (m : Int), vs = [.ref r, .int m] ∧ Vb.SqA K H r xs ∧ ((xs.length : Int) ≤ m → Q .non H) ∧ (m < (xs.length : Int) → E (.ref L) none H)
theorem ok_atmost (T : Txt K mg) : FnOk P w K mg base (L2N.CX P w) 1 T.f_check_at_most T.fd_check_at_most ["row", "most"] (sp_atmost K T.C_TooLarge) := by
  refine Vb.okN T.d_check_at_most.F sc_check_at_most (fun vs H Q E h => ?_) (fun cdv A outer s H vs Q E hr h => ?_)
  · obtain ⟨r, xs, m, rfl, _⟩ := h
    rfl
  · obtain ⟨r, xs, m, rfl, ha, q1, q2⟩ := h
    refine ⟨_, (pss_one (ps_if (pt_cmpR op_gt (pe_callB Vb.call_len (by rfl) T.n_len (by decide +kernel) (pa_cons (pv 0) pa_nil)) (pv 1) (nomark _)) (pss_one (L2N.ps_raise rfl (L2N.takes_of rfl rfl rfl rfl) (Vb.pmk0 T.x_TooLarge rfl))) pss_nil)), ?_⟩
    (change (_ : L2.TS) _ ([some (.ref r), some (.int m)] : L2.St) _); try dsimp only [L2.cxOf, L2H.cxH]
    walk_at "rd"
    refine Vb.r_ite (fun c => ?_) (fun c => ?_)
    · walk_at "rd"
      exact q2 c
    · walk_at "rd"
      exact q1 (by omega)
end
end K
namespace K
open PySem PySem.Spec PyProof.Rows L2
abbrev N_check_length : List Str := ["row", "length"]
theorem sc_check_length : FnScope N_check_length ["row", "length"] (defScope s_check_length) := ⟨rfl, rfl, rfl, by decide +kernel, rfl, by decide +kernel, by decide +kernel⟩
section
variable {P : Program} {w : World} {K : PySem.W.Frag} {mg : Str → Option Value} {base : Heap}
def sp_checklength (K : PySem.W.Frag) (C : Addr) : Sp := fun vs H Q E => ∃ (l : Addr) (xs : List V) (n : Int), vs = [.ref l, .int n] ∧ Vb.SqA K H l xs ∧ ((xs.length : Int) = n → Q .non H) ∧ ((xs.length : Int) ≠ n → E (.ref C) none H)
theorem ok_checklength (T : Txt K mg) : FnOk P w K mg base (L2N.CX P w) 1 T.f_check_length T.fd_check_length ["row", "length"] (sp_checklength K T.C_WrongPlaces) := by
  refine Vb.okN T.d_check_length.F sc_check_length (fun vs H Q E h => ?_) (fun cdv A outer s H vs Q E hr h => ?_)
  · obtain ⟨l, xs, n, rfl, _⟩ := h
    rfl
  · obtain ⟨l, xs, n, rfl, hl, q1, q2⟩ := h
    refine ⟨_, (pss_one (ps_if (pt_cmpR op_ne (pe_callB Vb.call_len (by rfl) T.n_len (by decide +kernel) (pa_cons (pv 0) pa_nil)) (pv 1) (nomark _)) (pss_one (L2N.ps_raise rfl (L2N.takes_of rfl rfl rfl rfl) (Vb.pmk0 T.x_WrongPlaces rfl))) pss_nil)), ?_⟩
    (change (_ : L2.TS) _ ([some (.ref l), some (.int n)] : L2.St) _); try dsimp only [L2.cxOf, L2H.cxH]
    walk_at "rd"
    refine Vb.r_iteN (fun c => ?_) (fun c => ?_)
    · walk_at "rd"
      exact q2 c
    · walk_at "rd"
      exact q1 c
end
end K
namespace K
open PySem PySem.Spec PyProof.Rows L2
section
variable {P : Program} {w : World} {K : PySem.W.Frag} {mg : Str → Option Value} {base : Heap}
open Pu
def φ_checknumber (K : PySem.W.Frag) (C : Addr) : PSp := fun As k X => ∃ (p : Int) (A : Asn) (d : PyData), As = [I p, A] ∧ (∀ S v, A.r S v → Dp K S v d) ∧ (inField p d = true → k (.v No)) ∧ (inField p d = false → X C [("value", A)])
theorem okp_checknumber (T : Txt K mg) : FnOk P w K mg base (L2N.CX P w) 3 T.f_check_number T.fd_check_number ["prime", "value"] (toSp (φ_checknumber K T.C_NotInField)) := (ok_checknum T).imp fun vs H Q E h => by
  obtain ⟨B, As, k, X, ⟨p, A, d, rfl, h1, q, q'⟩, b, a, s, q1, q2⟩ := h
  obtain ⟨y, x, rfl, rfl, g⟩ := two a
  exact ⟨p, x, d, rfl, Vb.dp_same b _ _ (h1 _ _ g), fun f => q1 B _ _ H (q f) (nxt_same b (Same.refl H)) rfl, fun f dd n => raise_val b g (q' f) q2 (Same.refl H) n⟩
end
end K
namespace K
open PySem PySem.Spec PyProof.Rows L2
section
variable {P : Program} {w : World} {K : PySem.W.Frag} {mg : Str → Option Value} {base : Heap}
open Pu
def φ_checkrange (K : PySem.W.Frag) (C : Addr) : PSp := fun As k X => ∃ (A : Asn) (lo hi : Int) (d : PyData), As = [A, I lo, I hi] ∧ (∀ S v, A.r S v → Dp K S v d) ∧ (inRange lo hi d = true → k (.v No)) ∧ (inRange lo hi d = false → X C [])
theorem okp_checkrange (T : Txt K mg) : FnOk P w K mg base (L2N.CX P w) 2 T.f_check_range T.fd_check_range ["value", "least", "most"] (toSp (φ_checkrange K T.C_OutOfRange)) := (ok_checkrange T).imp fun vs H Q E h => by
  obtain ⟨B, As, k, X, ⟨A, lo, hi, d, rfl, h1, q, q'⟩, b, a, s, q1, q2⟩ := h
  obtain ⟨x, y, z, rfl, g, rfl, rfl⟩ := three a
  exact ⟨x, lo, hi, d, rfl, Vb.dp_same b _ _ (h1 _ _ g), fun f => q1 B _ _ H (q f) (nxt_same b (Same.refl H)) rfl, fun f => q2 _ _ _ B H (q' f) (nxt_same b (Same.refl H)) er_none⟩
end
end K
namespace K
open PySem PySem.Spec PyProof.Rows L2
section
variable {P : Program} {w : World} {K : PySem.W.Frag} {mg : Str → Option Value} {base : Heap}
open Pu
def φ_atmost (K : PySem.W.Frag) (C : Addr) : PSp := fun As k X => ∃ (A : Asn) (m : Int) (Bs : List Asn), As = [A, I m] ∧ SqOf K A Bs ∧ ((Bs.length : Int) ≤ m → k (.v No)) ∧ (m < (Bs.length : Int) → X C [])
theorem okp_atmost (T : Txt K mg) : FnOk P w K mg base (L2N.CX P w) 1 T.f_check_at_most T.fd_check_at_most ["row", "most"] (toSp (φ_atmost K T.C_TooLarge)) := (ok_atmost T).imp fun vs H Q E h => by
  obtain ⟨B, As, k, X, ⟨A, m, Bs, rfl, h1, q, q'⟩, b, a, s, q1, q2⟩ := h
  obtain ⟨x, y, rfl, g, rfl⟩ := two a
  obtain ⟨r, xs, rfl, z, al⟩ := h1 _ _ g
  exact ⟨r, xs, m, rfl, (z.imp (fun h => Vb.sq_of (b _ _ h)) (Vb.sqd b)), fun f => q1 B _ _ H (q (by rw [al.len]; exact f)) (nxt_same b (Same.refl H)) rfl, fun f => q2 _ _ _ B H (q' (by rw [al.len]; exact f)) (nxt_same b (Same.refl H)) er_none⟩
end
end K
namespace K
open PySem PySem.Spec PyProof.Rows L2
section
variable {P : Program} {w : World} {K : PySem.W.Frag} {mg : Str → Option Value} {base : Heap}
open Pu
def φ_checklength (K : PySem.W.Frag) (C : Addr) : PSp := fun As k X => ∃ (A : Asn) (m : Int) (Bs : List Asn), As = [A, I m] ∧ SqOf K A Bs ∧ ((Bs.length : Int) = m → k (.v No)) ∧ ((Bs.length : Int) ≠ m → X C [])
theorem okp_checklength (T : Txt K mg) : FnOk P w K mg base (L2N.CX P w) 1 T.f_check_length T.fd_check_length ["row", "length"] (toSp (φ_checklength K T.C_WrongPlaces)) := (ok_checklength T).imp fun vs H Q E h => by
  obtain ⟨B, As, k, X, ⟨A, m, Bs, rfl, h1, q, q'⟩, b, a, s, q1, q2⟩ := h
  obtain ⟨x, y, rfl, g, rfl⟩ := two a
  obtain ⟨r, xs, rfl, z, al⟩ := h1 _ _ g
  exact ⟨r, xs, m, rfl, (z.imp (fun h => Vb.sq_of (b _ _ h)) (Vb.sqd b)), fun f => q1 B _ _ H (q (by rw [al.len]; exact f)) (nxt_same b (Same.refl H)) rfl, fun f => q2 _ _ _ B H (q' (by rw [al.len]; exact f)) (nxt_same b (Same.refl H)) er_none⟩
end
end K
namespace K
open PySem PySem.Spec PyProof.Rows L2
abbrev N_check_numbers : List Str := ["prime", "numbers", "number"]
theorem sc_check_numbers : FnScope N_check_numbers ["prime", "numbers"] (defScope s_check_numbers) := ⟨rfl, rfl, rfl, by decide +kernel, rfl, by decide +kernel, by decide +kernel⟩
section
variable {P : Program} {w : World} {K : PySem.W.Frag} {mg : Str → Option Value} {base : Heap}
open Pu
/-- a list or a tuple of these pieces of data -/
def DsOf (K : PySem.W.Frag) (Bs : List Asn) (ds : List PyData) : Prop := Bs.length = ds.length ∧ ∀ (i : Nat) B d, Bs[i]? = some B → ds[i]? = some d → ∀ S v, B.r S v → Dp K S v d
theorem ints_of {p : Int} {es : List PyData} (h : ∀ d ∈ es, inField p d = true) : ∃ xs : List Int, es = xs.map PyData.int ∧ ∀ x ∈ xs, 0 ≤ x ∧ x < p := by
  induction es with
  | nil => exact ⟨[], rfl, fun x m => by cases m⟩
  | cons d es ih =>
    obtain ⟨xs, h1, h2⟩ := ih fun d m => h d (List.mem_cons_of_mem _ m)
    have hd := h d (List.mem_cons_self ..)
    cases d with
    | int n =>
      have := inField_int.mp hd
      refine ⟨n :: xs, by rw [h1]; rfl, fun x m => ?_⟩
      rcases List.mem_cons.mp m with rfl | m
      · exact this
      · exact h2 x m
    | _ => cases hd
theorem bits_of {es : List PyData} (h : ∀ d ∈ es, inRange 0 1 d = true) : ∃ xs : List Int, es = xs.map PyData.int ∧ ∀ x ∈ xs, x = 0 ∨ x = 1 := by
  induction es with
  | nil => exact ⟨[], rfl, fun x m => by cases m⟩
  | cons d es ih =>
    obtain ⟨xs, h1, h2⟩ := ih fun d m => h d (List.mem_cons_of_mem _ m)
    obtain ⟨n, rfl, h3, h4⟩ := inRange_of (h d (List.mem_cons_self ..))
    refine ⟨n :: xs, by rw [h1]; rfl, fun x m => ?_⟩
    rcases List.mem_cons.mp m with rfl | m
    · omega
    · exact h2 x m
def φ_checknumbers (K : PySem.W.Frag) (C : Addr) : PSp := fun As k X => ∃ (p : Int) (A : Asn) (Bs : List Asn) (ds : List PyData), As = [I p, A] ∧ SqOf K A Bs ∧ DsOf K Bs ds ∧ ((∀ d ∈ ds, inField p d = true) → k (.v No)) ∧
  ∀ (i : Nat) B d, Bs[i]? = some B → ds[i]? = some d → inField p d = false → (∀ (j : Nat) e, j < i → ds[j]? = some e → inField p e = true) → X C [("value", B)]
theorem okp_checknumbers (T : Txt K mg) : FnOk P w K mg base (L2N.CX P w) 4 T.f_check_numbers T.fd_check_numbers ["prime", "numbers"] (toSp (φ_checknumbers K T.C_NotInField)) := by
  have G_check_number := okp_checknumber (P := P) (w := w) (base := base) T
  refine okP T.d_check_numbers.F sc_check_numbers (by decide) (fun As k X h => by obtain ⟨p, A, Bs, ds, rfl, _⟩ := h; rfl) fun cdv A0 outer s H E c As kk X hr hX h => ?_
  obtain ⟨p, A, Bs, ds, rfl, hA, hd, q, q'⟩ := h
  refine ⟨_, (pss_one (ps_for (L2.passes_of rfl) rfl (Vb.pi_seq (pv 1)) (pg_name (i := 2) sc_check_numbers.nd rfl (by first | exact Or.inl rfl | exact Or.inr rfl))
        (pss_one (ps_expr (pe_callS G_check_number (hr.mono (by first | decide | omega)) (by rfl) T.d_check_number.g T.d_check_number.F.kp T.d_check_number.b (fun σ => L2N.passAt (L2N.takes_of rfl rfl rfl rfl) σ) (pa_cons (pv 0) (pa_cons (pv 2) pa_nil))))))), ?_⟩
  change Pu.W _ _ [.v (I p), .v (A), .un] _
  walk_at "pw"
  refine lpL (fun i env => (∀ (j : Nat) e, j < i → ds[j]? = some e → inField p e = true) ∧ ∃ s2, env = [.v (I p), .v A, s2]) ⟨fun j e h => by omega, _, rfl⟩ ?_ ?_
  · rintro i B env hB ⟨hj, s2, rfl⟩
    have li := (List.getElem?_eq_some_iff.mp hB).1
    have ld := hd.1
    have hdi : ds[i]? = some (ds[i]'(by omega)) := List.getElem?_eq_getElem (by omega)
    walk_at "pw"
    refine ⟨_, _, _, rfl, hd.2 i B _ hB hdi, fun f => ?_, fun f => q' i B _ hB hdi f hj⟩
    walk_at "pw"
    refine ⟨fun j e hl he => ?_, _, rfl⟩
    by_cases z : j < i
    · exact hj j e z he
    · obtain rfl : j = i := by omega
      rw [hdi] at he
      cases he
      exact f
  · rintro env ⟨hj, s2, rfl⟩
    refine q fun d m => ?_
    obtain ⟨j, h⟩ := List.getElem?_of_mem m
    have := (List.getElem?_eq_some_iff.mp h).1
    exact hj j d (by have := hd.1; omega) h
end
end K
namespace K
open PySem PySem.Spec PyProof.Rows L2
abbrev N__law_number : List Str := ["store", "prime"]
theorem sc__law_number : FnScope N__law_number ["store", "prime"] (defScope s__law_number) := ⟨rfl, rfl, rfl, by decide +kernel, rfl, by decide +kernel, by decide +kernel⟩
section
variable {P : Program} {w : World} {K : PySem.W.Frag} {mg : Str → Option Value} {base : Heap}
def sp_lawnumber (K : PySem.W.Frag) : Sp := fun vs H Q _ => ∃ (st : Addr) (p : Int), vs = [.ref st, .int p] ∧ Vb.StoreAt H st ∧ (1 ≤ p ∧ p ≤ 101) ∧ ∀ (n : Int) (H' : Hp), 0 ≤ n → n < p → Vb.Fr st H H' → Vb.StoreAt H' st → Q (.int n) H'
theorem use_lawnumber {st : Addr} {p : Int} {H : Hp} {Q : VK} {E : XK} (h1 : Vb.StoreAt H st) (h2 : 1 ≤ p ∧ p ≤ 101) (h : ∀ (n : Int) (H' : Hp), 0 ≤ n → n < p → Vb.Fr st H H' → Vb.StoreAt H' st → Q (.int n) H') : sp_lawnumber K [.ref st, .int p] H Q E := ⟨st, p, rfl, h1, h2, h⟩
theorem ok_lawnumber (T : Txt K mg) : FnOk P w K mg base (L2N.CX P w) 4 T.f__law_number T.fd__law_number ["store", "prime"] (sp_lawnumber K) := by
  have G__law_edge := ok_edge (P := P) (w := w) (base := base) T
  refine Vb.okN T.d__law_number.F sc__law_number (fun vs H Q E h => ?_) (fun cdv A outer s H vs Q E hr h => ?_)
  · obtain ⟨a, b, rfl, _⟩ := h
    rfl
  · obtain ⟨st, p, rfl, hS, hp, q⟩ := h
    refine ⟨_, (pss_one (ps_ret (pe_callS G__law_edge (hr.mono (by first | decide | omega)) (by rfl) T.d__law_edge.g T.d__law_edge.F.kp T.d__law_edge.b (fun σ => L2N.passAt (L2N.takes_of rfl rfl rfl rfl) σ) (pa_cons (pv 0) (pa_cons pe_int (pa_cons (pe_op op_sub (pv 1) pe_int) pa_nil)))))), ?_⟩
    (change (_ : L2.TS) _ ([some (.ref st), some (.int p)] : L2.St) _); try dsimp only [L2.cxOf, L2H.cxH]
    walk_at "rd"
    refine use_edge hS (by omega) fun n H1 a1 a2 _ f1 S1 => ?_
    exact q _ _ a1 (by omega) f1 S1
end
end K
namespace K
open PySem PySem.Spec PyProof.Rows L2
section
variable {P : Program} {w : World} {K : PySem.W.Frag} {mg : Str → Option Value} {base : Heap}
open Pu
def φ_number : PSp := fun As k _ => ∃ p : Int, As = [I p] ∧ (1 ≤ p ∧ p ≤ 101) ∧ ∀ n : Int, 0 ≤ n → n < p → k (.v (I n))
theorem okp_number (T : Txt K mg) : FnOk P w K mg base (L2N.CX P w) 4 T.f__law_number T.fd__law_number ["store", "prime"] (toSpS φ_number) := (ok_lawnumber T).imp fun vs H Q E h => by
  obtain ⟨st, us, rfl, B, As, k, X, ⟨m, rfl, hm, q⟩, b, a, s, q1, _⟩ := h
  obtain ⟨x, rfl, rfl⟩ := one a
  exact ⟨st, m, rfl, (s st rfl).1, hm, fun v H' h1 h2 f S => q1 B _ _ H' (q v h1 h2) (nxt_fr b (s st rfl).2 f S) rfl⟩
end
end K
namespace K
open PySem PySem.Spec PyProof.Rows L2

abbrev N__law_numbers : List Str := ["store", "prime", "size", "way", "k"]
theorem sc__law_numbers : FnScope N__law_numbers ["store", "prime", "size"] (defScope s__law_numbers) := ⟨rfl, rfl, rfl, by decide +kernel, rfl, by decide +kernel, by decide +kernel⟩
section
variable {P : Program} {w : World} {K : PySem.W.Frag} {mg : Str → Option Value} {base : Heap}
/-- a list of numbers of the field that is filled from the store -/
structure NmS (p : Int) (st D : Addr) (k : Nat) (H H' : Hp) (ns : List Int) : Prop where
  s0 : Vb.StoreAt H st
  n0 : H D = none
  f : Vb.Fr st H H'
  S : Vb.StoreAt H' st
  h : H' D = some (.lst (ns.map V.int))
  c : ns.length = k
  a : ∀ n ∈ ns, 0 ≤ n ∧ n < p
theorem NmS.ne {p : Int} {st D : Addr} {k : Nat} {H H' : Hp} {ns : List Int} (v : NmS p st D k H H' ns) : D ≠ st := v.s0.ne v.n0
theorem NmS.fr {p : Int} {st D : Addr} {k : Nat} {H H' H2 : Hp} {ns : List Int} (v : NmS p st D k H H' ns) (f : Vb.Fr st H' H2) (s : Vb.StoreAt H2 st) : NmS p st D k H H2 ns := ⟨v.s0, v.n0, v.f.trans f, s, f.k _ _ v.ne v.h, v.c, v.a⟩
theorem NmS.app {p x : Int} {st D : Addr} {k : Nat} {H H' : Hp} {ns : List Int} (v : NmS p st D k H H' ns) (h : 0 ≤ x ∧ x < p) : NmS p st D (k + 1) H (upd H' D (.lst (ns.map V.int ++ [.int x]))) (ns ++ [x]) :=
  ⟨v.s0, v.n0, v.f.mut v.n0, v.s0.mut v.n0 v.f v.S, by rw [upd_same]; simp, by rw [List.length_append, v.c]; rfl, fun u m => by
    rcases List.mem_append.mp m with m | m
    · exact v.a u m
    · rw [List.mem_singleton.mp m]
      exact h⟩
theorem NmS.nil {p : Int} {st D : Addr} {H : Hp} (s : Vb.StoreAt H st) (h : H D = none) : NmS p st D 0 H (upd H D (.lst [])) [] := ⟨s, h, (Vb.Fr.refl _ _).mut h, s.mut h (Vb.Fr.refl _ _) s, upd_same, rfl, fun c m => by cases m⟩
theorem rep_flat (k : Nat) (x : Int) : (List.replicate k [V.int x]).flatten = (List.replicate k x).map V.int := by simp
theorem fr_none {H H' : Hp} {l st : Addr} (f : Vb.Fr st H H') (n : l ≠ st) (h : H' l = none) : H l = none := by
  cases e : H l with
  | none => rfl
  | some o => rw [f.k _ _ n e] at h; cases h
def sp_numbers (K : PySem.W.Frag) : Sp := fun vs H Q _ => ∃ (st : Addr) (p n : Int), vs = [.ref st, .int p, .int n] ∧ Vb.StoreAt H st ∧ (2 ≤ p ∧ p ≤ 101) ∧ (0 ≤ n ∧ n ≤ 1000) ∧ ∀ (l : Addr) (H' : Hp) (ns : List Int), l ≠ st → H l = none → H' l = some (.lst (ns.map V.int)) → (ns.length : Int) = n → (∀ c ∈ ns, 0 ≤ c ∧ c < p) → Vb.Fr st H H' → Vb.StoreAt H' st → Q (.ref l) H'
theorem use_numbers {st : Addr} {p n : Int} {H : Hp} {Q : VK} {E : XK} (h1 : Vb.StoreAt H st) (h2 : 2 ≤ p ∧ p ≤ 101) (h3 : 0 ≤ n ∧ n ≤ 1000) (h : ∀ (l : Addr) (H' : Hp) (ns : List Int), l ≠ st → H' l = some (.lst (ns.map V.int)) → (ns.length : Int) = n → (∀ c ∈ ns, 0 ≤ c ∧ c < p) → Vb.Fr st H H' → Vb.StoreAt H' st → Q (.ref l) H') : sp_numbers K [.ref st, .int p, .int n] H Q E := ⟨st, p, n, rfl, h1, h2, h3, fun l H' ns a _ b c d e f => h l H' ns a b c d e f⟩
theorem use_numbersN {st : Addr} {p n : Int} {H : Hp} {Q : VK} {E : XK} (h1 : Vb.StoreAt H st) (h2 : 2 ≤ p ∧ p ≤ 101) (h3 : 0 ≤ n ∧ n ≤ 1000) (h : ∀ (l : Addr) (H' : Hp) (ns : List Int), l ≠ st → H l = none → H' l = some (.lst (ns.map V.int)) → (ns.length : Int) = n → (∀ c ∈ ns, 0 ≤ c ∧ c < p) → Vb.Fr st H H' → Vb.StoreAt H' st → Q (.ref l) H') : sp_numbers K [.ref st, .int p, .int n] H Q E := ⟨st, p, n, rfl, h1, h2, h3, h⟩
theorem ok_numbers (T : Txt K mg) : FnOk P w K mg base (L2N.CX P w) 5 T.f__law_numbers T.fd__law_numbers ["store", "prime", "size"] (sp_numbers K) := by
  have G__law_take := ok_take (P := P) (w := w) (base := base) T
  have G__law_number := ok_lawnumber (P := P) (w := w) (base := base) T
  refine Vb.okN T.d__law_numbers.F sc__law_numbers (fun vs H Q E h => ?_) (fun cdv A outer s H vs Q E hr h => ?_)
  · obtain ⟨a, b, c, rfl, _⟩ := h
    rfl
  · obtain ⟨st, p, n, rfl, hS, hp, hn, q⟩ := h
    refine ⟨_, (pss_cons (ps_set (i := 3) sc__law_numbers.nd rfl (by first | exact Or.inl rfl | exact Or.inr rfl) (pe_callS G__law_take (hr.mono (by first | decide | omega)) (by rfl) T.d__law_take.g T.d__law_take.F.kp T.d__law_take.b (fun σ => L2N.passAt (L2N.takes_of rfl rfl rfl rfl) σ) (pa_cons (pv 0) (pa_cons pe_int pa_nil))))
      (pss_cons (ps_if (pt_cmpR op_eq (pv 3) pe_int (nomark _)) (pss_one (ps_ret (pe_op op_rep (pe_lst (pa_cons pe_int pa_nil)) (pv 2)))) pss_nil)
      (pss_cons (ps_if (pt_cmpR op_eq (pv 3) pe_int (nomark _)) (pss_one (ps_ret (pe_op op_rep (pe_lst (pa_cons (pe_callS G__law_number (hr.mono (by first | decide | omega)) (by rfl) T.d__law_number.g T.d__law_number.F.kp T.d__law_number.b (fun σ => L2N.passAt (L2N.takes_of rfl rfl rfl rfl) σ) (pa_cons (pv 0) (pa_cons (pv 1) pa_nil))) pa_nil)) (pv 2)))) pss_nil)
      (pss_cons (ps_if (pt_cmpR op_eq (pv 3) pe_int (nomark _)) (pss_one (ps_ret (pe_op op_rep (pe_lst (pa_cons (pe_op op_sub (pv 1) pe_int) pa_nil)) (pv 2)))) pss_nil)
      (pss_one (ps_ret (pe_lc (own := [("k", 4)]) (g := gName 4) (tt := tYes) rfl sc__law_numbers.nd (pi_range1 rfl T.n_range (pa_cons (pv 2) pa_nil)) (blkOk_by (own := [("k", 4)]) (N := N__law_numbers) (sc := defScope s__law_numbers) (by decide +kernel)) (fun _ _ _ _ _ => (pg_name (i := 4) sc__law_numbers.nd rfl (by first | exact Or.inl rfl | exact Or.inr rfl))) (fun _ _ _ _ _ => pts_nil) (fun _ _ _ _ _ => (pe_call G__law_number (hr.mono (by first | decide | omega)) (by rfl) T.d__law_number.g T.d__law_number.F.kp T.d__law_number.b .nil Vb.pass5 (pa_cons (pv 0) (pa_cons (pv 1) pa_nil))))))))))), ?_⟩
    (change (_ : L2.TS) _ ([some (.ref st), some (.int p), some (.int n), none, none] : L2.St) _); try dsimp only [L2.cxOf, L2H.cxH]
    have hp1 : 1 ≤ p ∧ p ≤ 101 := ⟨by omega, hp.2⟩
    have fin : ∀ {H1 : Hp} {x : Int} {l D : Addr}, 0 ≤ x ∧ x < p → Vb.Fr st H H1 → Vb.StoreAt H1 st → H1 l = none → (upd H1 l (.lst [.int x])) D = none → Q (.ref D) (upd (upd H1 l (.lst [.int x])) D (.lst ((List.replicate n.toNat [V.int x]).flatten))) := fun {H1 x l D} hx f S nl nD => by
      rw [rep_flat]
      have e := (Vb.same_new (o := .lst [.int x]) nl).trans (Vb.same_new (o := .lst ((List.replicate n.toNat x).map V.int)) nD)
      have nD1 := (Vb.same_new nl).free nD
      refine q D _ _ (S.ne nD1) (fr_none f (S.ne nD1) nD1) upd_same (by rw [List.length_replicate]; omega) (fun c m => by rw [List.eq_of_mem_replicate m]; exact hx) (f.trans (Vb.Fr.of e)) (S.same e)
    walk_at "rd"
    refine use_take hS (by decide) fun way H1 _ _ _ f1 S1 => ?_
    walk_at "rd"
    refine Vb.r_ite (fun c => ?_) (fun c => ?_)
    · walk_at "rd"
      refine ⟨Vb.size_ok (by show 1 ≤ 16777216; decide), fun l nl => ?_⟩
      walk_at "rd"
      refine Vb.r_repL upd_same ⟨by omega, by omega⟩ (Vb.size_ok (by show 1 * n.toNat ≤ 16777216; omega)) fun D nD => ?_
      exact fin (by omega) f1 S1 nl nD
    walk_at "rd"
    refine Vb.r_ite (fun c => ?_) (fun c => ?_)
    · walk_at "rd"
      refine use_lawnumber S1 hp1 fun x H2 x1 x2 f2 S2 => ?_
      walk_at "rd"
      refine ⟨Vb.size_ok (by show 1 ≤ 16777216; decide), fun l nl => ?_⟩
      walk_at "rd"
      refine Vb.r_repL upd_same ⟨by omega, by omega⟩ (Vb.size_ok (by show 1 * n.toNat ≤ 16777216; omega)) fun D nD => ?_
      exact fin ⟨x1, x2⟩ (f1.trans f2) S2 nl nD
    walk_at "rd"
    refine Vb.r_ite (fun c => ?_) (fun c => ?_)
    · walk_at "rd"
      refine ⟨Vb.size_ok (by show 1 ≤ 16777216; decide), fun l nl => ?_⟩
      walk_at "rd"
      refine Vb.r_repL upd_same ⟨by omega, by omega⟩ (Vb.size_ok (by show 1 * n.toNat ≤ 16777216; omega)) fun D nD => ?_
      exact fin (by omega) f1 S1 nl nD
    walk_at "rd"
    intro D hD
    refine Vb.lcw_range (fun i H' => ∃ ns, NmS p st D i H1 H' ns) ⟨[], NmS.nil S1 hD⟩ (fun x => rfl) ?_ ?_
    · rintro i H' hi ⟨ns, v⟩
      walk_at "rd"
      refine use_lawnumber v.S hp1 fun x H2 x1 x2 f2 S2 => ?_
      replace v := v.fr f2 S2
      exact ⟨_, v.h, Vb.size_lt (by rw [List.length_map, v.c]; omega), _, v.app ⟨x1, x2⟩⟩
    · rintro H' ⟨ns, v⟩
      have := v.c
      exact q D H' ns v.ne (fr_none f1 v.ne hD) v.h (by omega) v.a (f1.trans v.f) v.S
end
end K
namespace K
open PySem PySem.Spec PyProof.Rows L2
section
variable {P : Program} {w : World} {K : PySem.W.Frag} {mg : Str → Option Value} {base : Heap}
open Pu
def φ_numbers : PSp := fun As k _ => ∃ p n : Int, As = [I p, I n] ∧ (2 ≤ p ∧ p ≤ 101) ∧ (0 ≤ n ∧ n ≤ 1000) ∧ ∀ ns : List Int, (ns.length : Int) = n → (∀ c ∈ ns, 0 ≤ c ∧ c < p) → k (.o (Lc (ns.map I)))
theorem okp_numbers (T : Txt K mg) : FnOk P w K mg base (L2N.CX P w) 5 T.f__law_numbers T.fd__law_numbers ["store", "prime", "size"] (toSpS φ_numbers) := (ok_numbers T).imp fun vs H Q E h => by
  obtain ⟨st, us, rfl, B, As, k, X, ⟨p, n, rfl, hp, hn, q⟩, b, a, s, q1, _⟩ := h
  obtain ⟨x, y, rfl, rfl, rfl⟩ := two a
  exact ⟨st, p, n, rfl, (s st rfl).1, hp, hn, fun l H' ns ml nl hl h1 h2 f S => q1 B _ _ H' (q ns h1 h2) (nxt_fr b (s st rfl).2 f S) (rt_new hl nl (sub_none b nl) (All.of_ints ns))⟩
end
end K
namespace K
open PySem PySem.Spec PyProof.Rows L2
abbrev N__law_store : List Str := ["script", "seed", "cell"]
theorem sc__law_store : FnScope N__law_store ["script"] (defScope s__law_store) := ⟨rfl, rfl, rfl, by decide +kernel, rfl, by decide +kernel, by decide +kernel⟩
section
variable {P : Program} {w : World} {K : PySem.W.Frag} {mg : Str → Option Value} {base : Heap}
def sp_store (K : PySem.W.Frag) : Sp := fun vs H Q _ => ∃ (a : Addr) (ns : List Int), vs = [.ref a] ∧ SqL K H a (ns.map V.int) ∧ ns.length ≤ 1000000 ∧ ∀ (st : Addr) (H' : Hp), H st = none → Same H H' → Vb.StoreAt H' st → Q (.ref st) H'
theorem ok_store (T : Txt K mg) : FnOk P w K mg base (L2N.CX P w) 1 T.f__law_store T.fd__law_store ["script"] (sp_store K) := by
  refine Vb.okN T.d__law_store.F sc__law_store (fun vs H Q E h => ?_) (fun cdv A outer s H vs Q E hr h => ?_)
  · obtain ⟨a, b, rfl, _⟩ := h
    rfl
  · obtain ⟨a, ns, rfl, hs, hl, q⟩ := h
    refine ⟨_, (pss_cons (ps_set (i := 1) sc__law_store.nd rfl (by first | exact Or.inl rfl | exact Or.inr rfl) pe_int)
      (pss_cons (ps_for (L2.passes_of rfl) rfl (pi_list (pv 0)) (pg_name (i := 2) sc__law_store.nd rfl (by first | exact Or.inl rfl | exact Or.inr rfl))
        (pss_one (ps_set (i := 1) sc__law_store.nd rfl (by first | exact Or.inl rfl | exact Or.inr rfl) (pe_op op_mod (pe_callTy Vb.call_int (by rfl) T.n_int (by decide +kernel) (pa_cons (pe_op op_add (pe_op op_add (pe_op op_mul (pv 1) pe_int) (pe_op op_mod (pe_callTy Vb.call_int (by rfl) T.n_int (by decide +kernel) (pa_cons (pv 2) pa_nil)) pe_int)) pe_int) pa_nil)) pe_int))))
      (pss_one (ps_ret (pe_lst (pa_cons (pe_callTy Vb.call_list (by rfl) T.n_list (by decide +kernel) (pa_cons (pv 0) pa_nil)) (pa_cons pe_int (pa_cons pe_int (pa_cons pe_int (pa_cons (pv 1) pa_nil)))))))))), ?_⟩
    (change (_ : L2.TS) _ ([some (.ref a), none, none] : L2.St) _); try dsimp only [L2.cxOf, L2H.cxH]
    walk_at "rd"
    refine Vb.lp_list (xs := ns.map V.int) (fun i σ H' => H' = H ∧ ∃ (z : Int) (y : Option V), σ = [some (.ref a), some (.int z), y]) ⟨rfl, 1, none, rfl⟩ (fun i σ H' _ p => by rw [p.1]; exact hs) ?_ ?_
    · rintro i x σ H' hi ⟨rfl, z, y, rfl⟩
      obtain ⟨c, _, rfl⟩ := Vb.getV' hi
      walk_at "rd"
      exact ⟨rfl, _, _, rfl⟩
    · rintro σ H' ⟨rfl, z, y, rfl⟩
      walk_at "rd"
      refine Vb.r_list hs fun l hn => ?_
      walk_at "rd"
      refine ⟨Vb.size_ok (by show 5 ≤ 16777216; decide), fun st hst => ?_⟩
      have hlst : l ≠ st := fun e => by rw [e, upd_same] at hst; cases hst
      have hst' : H' st = none := by rw [← hst, upd_ne hlst.symm]
      refine q st _ hst' (Same.trans (Vb.same_new hn) (Vb.same_new hst)) ⟨l, ns, 0, 0, 0, z, hlst, upd_same, by walk_at "hp", by omega, by omega⟩
end
end K
namespace K
open PySem PySem.Spec PyProof.Rows L2
section
variable {K : PySem.W.Frag} {mg : Str → Option Value}
open Pu
theorem in_of {p : Int} {xs : List Int} (hx : ∀ x ∈ xs, 0 ≤ x ∧ x < p) : ∀ {i : Nat} {e : PyData}, (xs.map PyData.int)[i]? = some e → inField p e = true := fun {i e} h => by
  obtain ⟨x, h1, rfl⟩ := getM h
  have := hx x (List.mem_of_getElem? h1)
  exact inField_int.mpr this
theorem dsof_ints {xs : List Int} : DsOf K (xs.map I) (xs.map PyData.int) := ⟨by rw [List.length_map, List.length_map], fun i B d h1 h2 S v hv => by
  obtain ⟨x, g1, rfl⟩ := getM h1
  obtain ⟨y, g2, rfl⟩ := getM h2
  rw [g1] at g2
  cases g2
  cases (show v = .int x from hv)
  exact .int x⟩
theorem ints_inj {xs ys : List Int} (h : xs.map PyData.int = ys.map PyData.int) : xs = ys := by
  induction xs generalizing ys with
  | nil => cases ys with | nil => rfl | cons => cases h
  | cons x xs ih =>
    cases ys with
    | nil => cases h
    | cons y ys =>
      simp only [List.map_cons, List.cons.injEq, PyData.int.injEq] at h
      rw [h.1, ih h.2]
theorem bits_in {bs : List Int} (hb : ∀ x ∈ bs, x = 0 ∨ x = 1) : ¬ ∃ d ∈ bs.map PyData.int, inRange 0 1 d = false := fun ⟨d, m, f⟩ => by
  obtain ⟨x, mx, rfl⟩ := List.mem_map.mp m
  rw [inRange_int.mpr (by have := hb x mx; omega)] at f
  cases f
theorem ds_len {ds : List PyData} : (ds.map (D K)).length = ds.length := List.length_map ..
theorem dsof_D {ds : List PyData} : DsOf K (ds.map (D K)) ds := ⟨List.length_map .., fun i B d h1 h2 S v hv => by
  obtain ⟨x, g1, rfl⟩ := getM h1
  rw [g1] at h2
  cases h2
  exact hv⟩
end
end K
namespace K
open PySem PySem.Spec PyProof.Rows L2
section
/-! ### the terms of a sum of pairs (exponents, coefficient) -/
abbrev Ts := List (List Int × Int)
/-- what stands in all at these exponents -/
def cfL : Ts → List Int → Int
  | [], _ => 0
  | t :: r, e => (if t.1 = e then t.2 else 0) + cfL r e
theorem cfL_app (a b : Ts) (e : List Int) : cfL (a ++ b) e = cfL a e + cfL b e := by
  induction a with
  | nil => show cfL b e = 0 + _; omega
  | cons t r ih => show _ + cfL (r ++ b) e = _ + _ + _; rw [ih]; omega
theorem cfL_none {ts : Ts} {e : List Int} (h : ∀ t ∈ ts, t.1 ≠ e) : cfL ts e = 0 := by
  induction ts with
  | nil => rfl
  | cons t r ih =>
    show (if t.1 = e then t.2 else 0) + cfL r e = 0
    rw [if_neg (h t (List.mem_cons_self ..)), ih fun u m => h u (List.mem_cons_of_mem _ m)]
    rfl
theorem cfL_one {ts : Ts} (nd : (ts.map Prod.fst).Nodup) {t : List Int × Int} (m : t ∈ ts) : cfL ts t.1 = t.2 := by
  induction ts with
  | nil => cases m
  | cons u r ih =>
    obtain ⟨n1, n2⟩ := List.nodup_cons.mp nd
    show (if u.1 = t.1 then u.2 else 0) + cfL r t.1 = t.2
    rcases List.mem_cons.mp m with rfl | m
    · rw [if_pos rfl, cfL_none fun v mv h => n1 (by rw [← h]; exact List.mem_map.mpr ⟨v, mv, rfl⟩)]
      omega
    · have hm : t.1 ∈ r.map Prod.fst := List.mem_map.mpr ⟨t, m, rfl⟩
      rw [if_neg (fun h => n1 (by rw [h]; exact hm)), ih n2 m]
      omega
/-- in order -/
def Asc (ts : Ts) : Prop := ts.Pairwise fun a b => TS.code 64 a.1 < TS.code 64 b.1
/-- n exponents each, from 0 to 63 -/
def ExpOk (n : Nat) (e : List Int) : Prop := e.length = n ∧ ∀ x ∈ e, 0 ≤ x ∧ x < 64
theorem code_inj {n : Nat} : ∀ {a b : List Int}, ExpOk n a → ExpOk n b → TS.code 64 a = TS.code 64 b → a = b
  | [], [], _, _, _ => rfl
  | [], _ :: _, ha, hb, _ => by have := ha.1.trans hb.1.symm; cases this
  | _ :: _, [], ha, hb, _ => by have := ha.1.trans hb.1.symm; cases this
  | x :: a, y :: b, ha, hb, h => by
    have l : a.length = b.length := by have := ha.1.trans hb.1.symm; simpa using this
    have ra : TS.Bd 64 a := fun m mm => ha.2 m (List.mem_cons_of_mem _ mm)
    have rb : TS.Bd 64 b := fun m mm => hb.2 m (List.mem_cons_of_mem _ mm)
    rcases Int.lt_trichotomy x y with c | c | c
    · have := TS.code_lt l ra rb c; omega
    · subst c
      have e : TS.code 64 a = TS.code 64 b := by
        rcases Int.lt_trichotomy (TS.code 64 a) (TS.code 64 b) with c | c | c
        · have := (TS.code_same (d := x) (B := 64) l).mpr c; omega
        · exact c
        · have := (TS.code_same (d := x) (B := 64) l.symm).mpr c; omega
      rw [code_inj (n := a.length) ⟨rfl, ra⟩ ⟨l.symm, rb⟩ e]
    · have := TS.code_lt l.symm rb ra c; omega
/-- ts are the terms of the pairs, modulo p -/
structure Norm (p : Int) (ps ts : Ts) : Prop where
  asc : Asc ts
  cf : ∀ t ∈ ts, t.2 = cfL ps t.1 % p ∧ t.2 ≠ 0
  all : ∀ e, cfL ps e % p ≠ 0 → ∃ t ∈ ts, t.1 = e
  mem : ∀ t ∈ ts, ∃ u ∈ ps, u.1 = t.1
theorem Asc.nodup {ts : Ts} (h : Asc ts) : (ts.map Prod.fst).Nodup := by
  rw [List.Nodup, List.pairwise_map]
  exact h.imp fun {a b} h e => by rw [e] at h; omega
theorem Norm.cfe {p : Int} {ps ts : Ts} (h : Norm p ps ts) (e : List Int) : cfL ts e = cfL ps e % p := by
  by_cases z : ∃ t ∈ ts, t.1 = e
  · obtain ⟨t, m, rfl⟩ := z
    rw [cfL_one h.asc.nodup m, (h.cf t m).1]
  · rw [cfL_none fun t m e' => z ⟨t, m, e'⟩]
    by_cases c : cfL ps e % p = 0
    · rw [c]
    · exact absurd (h.all e c) z
/-- ascending lists with the same coefficients, none of them 0, are one -/
theorem asc_ext : ∀ {ts us : Ts}, Asc ts → Asc us → (∀ t ∈ ts, t.2 ≠ 0) → (∀ t ∈ us, t.2 ≠ 0) → (∀ e, cfL ts e = cfL us e) → ts = us
  | [], [], _, _, _, _, _ => rfl
  | [], u :: us, _, hu, _, zu, h => by
    have := h u.1
    rw [cfL_one hu.nodup (List.mem_cons_self ..)] at this
    exact absurd this.symm (zu u (List.mem_cons_self ..))
  | t :: ts, [], ht, _, zt, _, h => by
    have := h t.1
    rw [cfL_one ht.nodup (List.mem_cons_self ..)] at this
    exact absurd this (zt t (List.mem_cons_self ..))
  | t :: ts, u :: us, ht, hu, zt, zu, h => by
    obtain ⟨t1, t2⟩ := List.pairwise_cons.mp ht
    obtain ⟨u1, u2⟩ := List.pairwise_cons.mp hu
    have inu : ∃ v ∈ u :: us, v.1 = t.1 := by
      apply Classical.byContradiction
      intro no
      have := h t.1
      rw [cfL_one ht.nodup (List.mem_cons_self ..), cfL_none (ts := u :: us) fun v m e => no ⟨v, m, e⟩] at this
      exact zt t (List.mem_cons_self ..) this
    have int : ∃ v ∈ t :: ts, v.1 = u.1 := by
      apply Classical.byContradiction
      intro no
      have := h u.1
      rw [cfL_one hu.nodup (List.mem_cons_self ..), cfL_none (ts := t :: ts) fun v m e => no ⟨v, m, e⟩] at this
      exact zu u (List.mem_cons_self ..) this.symm
    have e1 : t.1 = u.1 := by
      obtain ⟨v, mv, ev⟩ := inu
      obtain ⟨w, mw, ew⟩ := int
      rcases List.mem_cons.mp mv with rfl | mv
      · exact ev.symm
      · rcases List.mem_cons.mp mw with rfl | mw
        · exact ew
        · have a := u1 v mv
          have b := t1 w mw
          rw [ev] at a
          rw [ew] at b
          omega
    have e2 : t.2 = u.2 := by
      have := h t.1
      rw [cfL_one ht.nodup (List.mem_cons_self ..), e1, cfL_one hu.nodup (List.mem_cons_self ..)] at this
      exact this
    have e3 : t = u := Prod.ext e1 e2
    subst e3
    rw [asc_ext t2 u2 (fun v m => zt v (List.mem_cons_of_mem _ m)) (fun v m => zu v (List.mem_cons_of_mem _ m)) fun e => by
      have := h e
      have a : cfL (t :: ts) e = (if t.1 = e then t.2 else 0) + cfL ts e := rfl
      have b : cfL (t :: us) e = (if t.1 = e then t.2 else 0) + cfL us e := rfl
      omega]
theorem Norm.uniq {p : Int} {ps qs ts us : Ts} (h : Norm p ps ts) (g : Norm p qs us) (e : ∀ e, cfL ps e % p = cfL qs e % p) : ts = us := asc_ext h.asc g.asc (fun t m => (h.cf t m).2) (fun t m => (g.cf t m).2) fun x => by rw [h.cfe, g.cfe, e]
end
end K
namespace K
open PySem PySem.Spec PyProof.Rows L2
abbrev N__law_bad_row : List Str := ["store", "prime", "row", "bent", "value", "at"]
theorem sc__law_bad_row : FnScope N__law_bad_row ["store", "prime", "row"] (defScope s__law_bad_row) := ⟨rfl, rfl, rfl, by decide +kernel, rfl, by decide +kernel, by decide +kernel⟩
section
variable {P : Program} {w : World} {K : PySem.W.Frag} {mg : Str → Option Value} {base : Heap}
open Pu
/-- a row of numbers, spoilt: its first bad number at a place -/
def φ_badrow (K : PySem.W.Frag) : PSp := fun As k _ => ∃ (p : Int) (A : Asn) (xs : List Int), As = [I p, A] ∧ 1 ≤ p ∧ xs.length ≤ 1000000 ∧ SqOf K A (xs.map I) ∧
  ∀ (ds : List PyData) (i : Nat) (d : PyData), ds.length = max 1 xs.length → ds[i]? = some d → inField p d = false → Vb.DOk 4 d → LFd d → (∀ j < i, ∃ x : Int, xs[j]? = some x ∧ ds[j]? = some (.int x)) → (∀ e ∈ ds, LF e ∧ Vb.DOk 4 e) → k (.v (Tu K [L (ds.map (D K)), D K d]))
theorem okp_badrow (T : Txt K mg) : FnOk P w K mg base (L2N.CX P w) 7 T.f__law_bad_row T.fd__law_bad_row ["store", "prime", "row"] (toSpS (φ_badrow K)) := by
  have G__law_take := okp_take (P := P) (w := w) (base := base) T
  have G__law_bad_number := okp_badnumber (P := P) (w := w) (base := base) T
  refine okPS T.d__law_bad_row.F sc__law_bad_row (by decide) (fun As k X h => by obtain ⟨_, _, _, rfl, _⟩ := h; rfl) fun cdv A0 outer s H E st c As kk X hr hX h => ?_
  obtain ⟨p, A, xs, rfl, hp, hl, hA, q⟩ := h
  refine ⟨_, (pss_cons (ps_set (i := 3) sc__law_bad_row.nd rfl (by first | exact Or.inl rfl | exact Or.inr rfl) (pe_callTy Vb.call_list (by rfl) T.n_list (by decide +kernel) (pa_cons (pv 2) pa_nil)))
      (pss_cons (ps_set (i := 4) sc__law_bad_row.nd rfl (by first | exact Or.inl rfl | exact Or.inr rfl) (pe_callS G__law_bad_number (hr.mono (by first | decide | omega)) (by rfl) T.d__law_bad_number.g T.d__law_bad_number.F.kp T.d__law_bad_number.b (fun σ => L2N.passAt (L2N.takes_of rfl rfl rfl rfl) σ) (pa_cons (pv 0) (pa_cons (pv 1) pa_nil))))
      (pss_cons (ps_if (pt_cmpR op_eq (pe_callB Vb.call_len (by rfl) T.n_len (by decide +kernel) (pa_cons (pv 3) pa_nil)) pe_int (nomark _)) (pss_one (ps_ret (pe_tup (pa_cons (pe_lst (pa_cons (pv 4) pa_nil)) (pa_cons (pv 4) pa_nil))))) pss_nil)
      (pss_cons (ps_set (i := 5) sc__law_bad_row.nd rfl (by first | exact Or.inl rfl | exact Or.inr rfl) (pe_callS G__law_take (hr.mono (by first | decide | omega)) (by rfl) T.d__law_take.g T.d__law_take.F.kp T.d__law_take.b (fun σ => L2N.passAt (L2N.takes_of rfl rfl rfl rfl) σ) (pa_cons (pv 0) (pa_cons (pe_callB Vb.call_len (by rfl) T.n_len (by decide +kernel) (pa_cons (pv 3) pa_nil)) pa_nil))))
      (pss_cons (ps_asg (pv 4) (pg_sub (pv 3) (pv 5) set_list))
      (pss_cons (ps_if (PW.pt (pw_and (pt_cmpR op_lt (pe_op op_add (pv 5) pe_int) (pe_callB Vb.call_len (by rfl) T.n_len (by decide +kernel) (pa_cons (pv 3) pa_nil)) (nomark _)) (pw_and1 (pt_cmpR op_eq (pe_callS G__law_take (hr.mono (by first | decide | omega)) (by rfl) T.d__law_take.g T.d__law_take.F.kp T.d__law_take.b (fun σ => L2N.passAt (L2N.takes_of rfl rfl rfl rfl) σ) (pa_cons (pv 0) (pa_cons pe_int pa_nil))) pe_int (nomark _))))) (pss_one (ps_asg (pe_callS G__law_bad_number (hr.mono (by first | decide | omega)) (by rfl) T.d__law_bad_number.g T.d__law_bad_number.F.kp T.d__law_bad_number.b (fun σ => L2N.passAt (L2N.takes_of rfl rfl rfl rfl) σ) (pa_cons (pv 0) (pa_cons (pv 1) pa_nil))) (pg_sub (pv 3) (pe_op op_add (pe_op op_add (pv 5) pe_int) (pe_callS G__law_take (hr.mono (by first | decide | omega)) (by rfl) T.d__law_take.g T.d__law_take.F.kp T.d__law_take.b (fun σ => L2N.passAt (L2N.takes_of rfl rfl rfl rfl) σ) (pa_cons (pv 0) (pa_cons (pe_op op_sub (pe_op op_sub (pe_callB Vb.call_len (by rfl) T.n_len (by decide +kernel) (pa_cons (pv 3) pa_nil)) (pv 5)) pe_int) pa_nil)))) set_list))) pss_nil)
      (pss_one (ps_ret (pe_tup (pa_cons (pv 3) (pa_cons (pv 4) pa_nil))))))))))), ?_⟩
  change Pu.W _ _ [.v (Pu.Rf st), .v (I p), .v (A), .un, .un, .un] _
  walk_at "pw"
  refine ⟨_, rfl, hp, fun d0 f0 o0 lf0 => ?_⟩
  walk_at "pw"
  rw [List.length_map]
  refine Vb.r_ite (fun hz => ?_) (fun hz => ?_)
  · walk_at "pw"
    have : xs = [] := List.length_eq_zero_iff.mp (by omega)
    subst this
    exact q [d0] 0 d0 rfl rfl f0 o0 lf0 (fun j h => by omega) (fun e m => by rw [List.mem_singleton.mp m]; exact ⟨lf0.lf, o0⟩)
  have hm : ∀ S a o, (Lc (xs.map I)).r S a o → (Lc ((xs.map PyData.int).map (D K))).r S a o := fun S a o ⟨ys, h, g⟩ => ⟨ys, h, by
    rw [All.ints g, List.map_map]
    exact All.map (f := D K ∘ PyData.int) (g := V.int) (fun x => Dp.int x) xs⟩
  refine w_nxt (W.wkO (i := 3) rfl hm ?_)
  walk_at "pw"
  refine ⟨_, rfl, by simp only [List.length_map]; omega, fun v h1 h2 h3 => ?_⟩
  simp only [List.length_map] at h2 h3
  walk_at "pw"
  obtain ⟨n, rfl⟩ := Int.eq_ofNat_of_zero_le h1
  have hn : n < xs.length := by omega
  refine ⟨_, _, n, rfl, rfl, Vb.ix_of n rfl (by simp only [List.length_map]; exact hn), ?_⟩
  rw [← List.map_set]
  have fin : ∀ ds : List PyData, ds.length = xs.length → ds[n]? = some d0 → (∀ j < n, ds[j]? = (xs.map PyData.int)[j]?) → (∀ e ∈ ds, LF e ∧ Vb.DOk 4 e) → kk (.v (Tu K [L (ds.map (D K)), D K d0])) := fun ds e1 e2 e3 e4 => q ds n d0 (by omega) e2 f0 o0 lf0 (fun j hj => ⟨xs[j]'(by omega), List.getElem?_eq_getElem _, by rw [e3 j hj, List.getElem?_map, List.getElem?_eq_getElem (by omega)]; rfl⟩) e4
  have ok1 : ∀ e ∈ (xs.map PyData.int).set n d0, LF e ∧ Vb.DOk 4 e := fun e m => by
    rcases List.mem_or_eq_of_mem_set m with m | rfl
    · obtain ⟨x, _, rfl⟩ := List.mem_map.mp m
      exact ⟨.int x, trivial⟩
    · exact ⟨lf0.lf, o0⟩
  have l1 : ((xs.map PyData.int).set n d0).length = xs.length := by rw [List.length_set, List.length_map]
  have a1 : ((xs.map PyData.int).set n d0)[n]? = some d0 := List.getElem?_set_self (by rw [List.length_map]; exact hn)
  have b1 : ∀ j < n, ((xs.map PyData.int).set n d0)[j]? = (xs.map PyData.int)[j]? := fun j hj => List.getElem?_set_ne (by omega)
  generalize (xs.map PyData.int).set n d0 = ds at ok1 l1 a1 b1
  walk_at "pw"
  rw [List.length_map, l1]
  refine Vb.r_ite (fun hc => ?_) (fun hc => ?_)
  · walk_at "pw"
    refine ⟨_, rfl, by decide, fun t t1 _ _ => ?_⟩
    walk_at "pw"
    refine Vb.r_ite (fun hc => ?_) (fun hc => ?_)
    · walk_at "pw"
      refine ⟨_, rfl, hp, fun d1 f1 o1 lf1 => ?_⟩
      walk_at "pw"
      refine ⟨_, rfl, by rw [List.length_map, l1]; omega, fun u u1 u2 u3 => ?_⟩
      rw [List.length_map, l1] at u2 u3
      obtain ⟨m, rfl⟩ := Int.eq_ofNat_of_zero_le u1
      have hm : n + 1 + m < xs.length := by omega
      walk_at "pw"
      refine ⟨_, _, n + 1 + m, rfl, rfl, Vb.ix_of _ (by omega) (by rw [List.length_map, l1]; exact hm), ?_⟩
      rw [← List.map_set]
      walk_at "pw"
      refine fin _ (by rw [List.length_set, l1]) (by rw [List.getElem?_set_ne (by omega)]; exact a1) (fun j hj => by rw [List.getElem?_set_ne (by omega)]; exact b1 j hj) fun e me => ?_
      rcases List.mem_or_eq_of_mem_set me with me | rfl
      · exact ok1 e me
      · exact ⟨lf1.lf, o1⟩
    · walk_at "pw"
      exact fin _ l1 a1 b1 ok1
  · walk_at "pw"
    exact fin _ l1 a1 b1 ok1
end
end K
namespace K
open PySem PySem.Spec PyProof.Rows L2
section
open PySem
/-! ### the lengths of tables -/
theorem pow_in : ∀ n : Nat, n < 6 → ((2 ^ n : Nat) : Int) ∈ ([1, 2, 4, 8, 16, 32] : List Int) := by decide
theorem in_pow {m : Nat} (h : (m : Int) ∈ ([1, 2, 4, 8, 16, 32] : List Int)) : ∃ n : Nat, n ≤ 5 ∧ m = 2 ^ n := by
  simp only [List.mem_cons, List.not_mem_nil, or_false] at h
  rcases h with h | h | h | h | h | h
  · exact ⟨0, by decide, by omega⟩
  · exact ⟨1, by decide, by omega⟩
  · exact ⟨2, by decide, by omega⟩
  · exact ⟨3, by decide, by omega⟩
  · exact ⟨4, by decide, by omega⟩
  · exact ⟨5, by decide, by omega⟩
theorem pow_at : ∀ n : Nat, n < 6 → ([1, 2, 4, 8, 16, 32] : List Int)[n]? = some ((2 ^ n : Nat) : Int) ∧ ∀ m, m < n → ([1, 2, 4, 8, 16, 32] : List Int)[m]? ≠ some ((2 ^ n : Nat) : Int) := by decide
end
end K
namespace K
open PySem PySem.Spec PyProof.Rows L2
section
variable {K : PySem.W.Frag}
open PySem PySem.Spec PyProof.Rows L2 Pu
theorem sq_ints {E : Asn} {Es : List Asn} {xs : List Int} (h : SqOf K E Es) (d : DsOf K Es (xs.map PyData.int)) : SqOf K E (xs.map I) := fun S v hv => by
  obtain ⟨a, vs, e, s, g⟩ := h S v hv
  refine ⟨a, vs, e, s, ?_⟩
  have l : vs.length = xs.length := by rw [← g.len, d.1, List.length_map]
  have hx : vs = xs.map V.int := List.ext_getElem (by rw [List.length_map, l]) fun j h1 h2 => by
    obtain ⟨A, hA, rA⟩ := g.at_ (List.getElem?_eq_getElem h1)
    have hj : j < xs.length := by omega
    have := d.2 j A (.int xs[j]) hA (by rw [List.getElem?_map, List.getElem?_eq_getElem hj]; rfl) S _ rA
    rw [List.getElem_map]
    generalize vs[j] = y at this
    cases this
    rfl
  rw [hx]
  exact All.of_ints xs
theorem imp_int {C : Asn} {c : Int} (h : ∀ S v, C.r S v → Dp K S v (.int c)) : Imp C (I c) := fun S v hv => by
  have := h S v hv
  cases this
  rfl
end
end K
namespace K
open PySem PySem.Spec PyProof.Rows L2

abbrev N__law_copy : List Str := ["value", "item"]
theorem sc__law_copy : FnScope N__law_copy ["value"] (defScope s__law_copy) := ⟨rfl, rfl, rfl, by decide +kernel, rfl, by decide +kernel, by decide +kernel⟩
section
variable {P : Program} {w : World} {K : PySem.W.Frag} {mg : Str → Option Value} {base : Heap}
open Pu
/-- a copy of a number -/
def φ_copyI : PSp := fun As k _ => ∃ (n : Int), As = [I n] ∧ k (.v (I n))
theorem ok_copyI (T : Txt K mg) : FnOk P w K mg base (L2N.CX P w) 5 T.f__law_copy T.fd__law_copy ["value"] (toSp φ_copyI) := by
  have G__law_copy : FnOk P w K mg base (L2N.CX P w) 4 T.f__law_copy T.fd__law_copy ["value"] (toSp fun _ _ _ => False) := ⟨fun _ _ _ _ h => by obtain ⟨_, _, _, _, h, _⟩ := h; exact h.elim, fun _ _ _ _ _ _ _ _ _ _ _ _ _ h => by obtain ⟨_, _, _, _, h, _⟩ := h; exact h.elim⟩
  refine okP T.d__law_copy.F sc__law_copy (by decide) (fun As k X h => by obtain ⟨_, rfl, _⟩ := h; rfl) fun cdv A0 outer s H E c As kk X hr hX h => ?_
  obtain ⟨n, rfl, q⟩ := h
  refine ⟨_, (pss_cons (ps_if (pt_val (pe_callB call_isi (by rfl) T.n_isinstance (by decide +kernel) (pa_cons (pv 0) (pa_cons (pe_bltn (v := .ty "list") (by rfl) T.n_list (by decide +kernel) rfl) pa_nil)))) (pss_one (ps_ret (pe_lc (own := [("item", 1)]) (g := gName 1) (tt := tYes) rfl sc__law_copy.nd (pi_list (pv 0)) (blkOk_by (own := [("item", 1)]) (N := N__law_copy) (sc := defScope s__law_copy) (by decide +kernel)) (fun _ _ _ _ _ => (pg_name (i := 1) sc__law_copy.nd rfl (by first | exact Or.inl rfl | exact Or.inr rfl))) (fun _ _ _ _ _ => pts_nil) (fun _ _ _ _ _ => (pe_call G__law_copy (hr.mono (by first | decide | omega)) (by rfl) T.d__law_copy.g T.d__law_copy.F.kp T.d__law_copy.b .nil Vb.pass5 (pa_cons (pv 1) pa_nil)))))) pss_nil)
      (pss_cons (ps_if (pt_val (pe_callB call_isi (by rfl) T.n_isinstance (by decide +kernel) (pa_cons (pv 0) (pa_cons (pe_bltn (v := .ty "tuple") (by rfl) T.n_tuple (by decide +kernel) rfl) pa_nil)))) (pss_one (ps_ret (pe_callTy Vb.call_tuple (by rfl) T.n_tuple (by decide +kernel) (pa_cons (pe_lc (own := [("item", 1)]) (g := gName 1) (tt := tYes) rfl sc__law_copy.nd (pi_tup (pv 0)) (blkOk_by (own := [("item", 1)]) (N := N__law_copy) (sc := defScope s__law_copy) (by decide +kernel)) (fun _ _ _ _ _ => (pg_name (i := 1) sc__law_copy.nd rfl (by first | exact Or.inl rfl | exact Or.inr rfl))) (fun _ _ _ _ _ => pts_nil) (fun _ _ _ _ _ => (pe_call G__law_copy (hr.mono (by first | decide | omega)) (by rfl) T.d__law_copy.g T.d__law_copy.F.kp T.d__law_copy.b .nil Vb.pass5 (pa_cons (pv 1) pa_nil)))) pa_nil)))) pss_nil)
      (pss_one (ps_ret (pv 0))))), ?_⟩
  change Pu.W _ _ [.v (I n), .un] _
  walk_at "pw"
  exact q
/-- a copy of a row of numbers -/
def φ_copyR (K : PySem.W.Frag) : PSp := fun As k _ => ∃ (ns : List Int), ns.length ≤ 1000000 ∧ ((As = [L (ns.map I)] ∧ k (.o (Lc (ns.map I)))) ∨ (As = [Tu K (ns.map I)] ∧ k (.v (Tu K (ns.map I)))))
theorem ok_copyR (T : Txt K mg) : FnOk P w K mg base (L2N.CX P w) 6 T.f__law_copy T.fd__law_copy ["value"] (toSp (φ_copyR K)) := by
  have G__law_copy := ok_copyI (P := P) (w := w) (base := base) T
  refine okP T.d__law_copy.F sc__law_copy (by decide) (fun As k X h => by obtain ⟨_, _, ⟨rfl, _⟩ | ⟨rfl, _⟩⟩ := h <;> rfl) fun cdv A0 outer s H E c As kk X hr hX h => ?_
  obtain ⟨ns, ln, ⟨rfl, q⟩ | ⟨rfl, q⟩⟩ := h
  · refine ⟨_, (pss_cons (ps_if (pt_val (pe_callB call_isi (by rfl) T.n_isinstance (by decide +kernel) (pa_cons (pv 0) (pa_cons (pe_bltn (v := .ty "list") (by rfl) T.n_list (by decide +kernel) rfl) pa_nil)))) (pss_one (ps_ret (pe_lc (own := [("item", 1)]) (g := gName 1) (tt := tYes) rfl sc__law_copy.nd (pi_list (pv 0)) (blkOk_by (own := [("item", 1)]) (N := N__law_copy) (sc := defScope s__law_copy) (by decide +kernel)) (fun _ _ _ _ _ => (pg_name (i := 1) sc__law_copy.nd rfl (by first | exact Or.inl rfl | exact Or.inr rfl))) (fun _ _ _ _ _ => pts_nil) (fun _ _ _ _ _ => (pe_call G__law_copy (hr.mono (by first | decide | omega)) (by rfl) T.d__law_copy.g T.d__law_copy.F.kp T.d__law_copy.b .nil Vb.pass5 (pa_cons (pv 1) pa_nil)))))) pss_nil)
      (pss_cons (ps_if (pt_val (pe_callB call_isi (by rfl) T.n_isinstance (by decide +kernel) (pa_cons (pv 0) (pa_cons (pe_bltn (v := .ty "tuple") (by rfl) T.n_tuple (by decide +kernel) rfl) pa_nil)))) (pss_one (ps_ret (pe_callTy Vb.call_tuple (by rfl) T.n_tuple (by decide +kernel) (pa_cons (pe_lc (own := [("item", 1)]) (g := gName 1) (tt := tYes) rfl sc__law_copy.nd (pi_tup (pv 0)) (blkOk_by (own := [("item", 1)]) (N := N__law_copy) (sc := defScope s__law_copy) (by decide +kernel)) (fun _ _ _ _ _ => (pg_name (i := 1) sc__law_copy.nd rfl (by first | exact Or.inl rfl | exact Or.inr rfl))) (fun _ _ _ _ _ => pts_nil) (fun _ _ _ _ _ => (pe_call G__law_copy (hr.mono (by first | decide | omega)) (by rfl) T.d__law_copy.g T.d__law_copy.F.kp T.d__law_copy.b .nil Vb.pass5 (pa_cons (pv 1) pa_nil)))) pa_nil)))) pss_nil)
      (pss_one (ps_ret (pv 0))))), ?_⟩
    change Pu.W _ _ [.v (L (ns.map I)), .un] _
    walk_at "pw"
    refine lcM_map (xs := ns) (f := I) (g := I) (by omega) (fun c' i n hi => ?_) ?_
    · walk_at "pw"
      refine ⟨n, rfl, ?_⟩
      walk_at "pw"
      exact ⟨rfl, rfl⟩
    walk_at "pw"
    exact q
  · refine ⟨_, (pss_cons (ps_if (pt_val (pe_callB call_isi (by rfl) T.n_isinstance (by decide +kernel) (pa_cons (pv 0) (pa_cons (pe_bltn (v := .ty "list") (by rfl) T.n_list (by decide +kernel) rfl) pa_nil)))) (pss_one (ps_ret (pe_lc (own := [("item", 1)]) (g := gName 1) (tt := tYes) rfl sc__law_copy.nd (pi_list (pv 0)) (blkOk_by (own := [("item", 1)]) (N := N__law_copy) (sc := defScope s__law_copy) (by decide +kernel)) (fun _ _ _ _ _ => (pg_name (i := 1) sc__law_copy.nd rfl (by first | exact Or.inl rfl | exact Or.inr rfl))) (fun _ _ _ _ _ => pts_nil) (fun _ _ _ _ _ => (pe_call G__law_copy (hr.mono (by first | decide | omega)) (by rfl) T.d__law_copy.g T.d__law_copy.F.kp T.d__law_copy.b .nil Vb.pass5 (pa_cons (pv 1) pa_nil)))))) pss_nil)
      (pss_cons (ps_if (pt_val (pe_callB call_isi (by rfl) T.n_isinstance (by decide +kernel) (pa_cons (pv 0) (pa_cons (pe_bltn (v := .ty "tuple") (by rfl) T.n_tuple (by decide +kernel) rfl) pa_nil)))) (pss_one (ps_ret (pe_callTy Vb.call_tuple (by rfl) T.n_tuple (by decide +kernel) (pa_cons (pe_lc (own := [("item", 1)]) (g := gName 1) (tt := tYes) rfl sc__law_copy.nd (pi_tup (pv 0)) (blkOk_by (own := [("item", 1)]) (N := N__law_copy) (sc := defScope s__law_copy) (by decide +kernel)) (fun _ _ _ _ _ => (pg_name (i := 1) sc__law_copy.nd rfl (by first | exact Or.inl rfl | exact Or.inr rfl))) (fun _ _ _ _ _ => pts_nil) (fun _ _ _ _ _ => (pe_call G__law_copy (hr.mono (by first | decide | omega)) (by rfl) T.d__law_copy.g T.d__law_copy.F.kp T.d__law_copy.b .nil Vb.pass5 (pa_cons (pv 1) pa_nil)))) pa_nil)))) pss_nil)
      (pss_one (ps_ret (pv 0))))), ?_⟩
    change Pu.W _ _ [.v (Tu K (ns.map I)), .un] _
    walk_at "pw"
    rw [if_neg (by decide +kernel)]
    walk_at "pw"
    refine ⟨ns.map I, rfl, no_un rfl, ?_⟩
    refine lcM_map (xs := ns) (f := I) (g := I) (by omega) (fun c' i n hi => ?_) ?_
    · walk_at "pw"
      refine ⟨n, rfl, ?_⟩
      walk_at "pw"
      exact ⟨rfl, rfl⟩
    walk_at "pw"
    exact q
end
end K
namespace K
open PySem PySem.Spec PyProof.Rows L2

section
variable {P : Program} {w : World} {K : PySem.W.Frag} {mg : Str → Option Value} {base : Heap}
open Pu
/-- a row of numbers: a list or a tuple -/
def rowB (K : PySem.W.Frag) (y : Bool × List Int) : Asn := match y with
  | (true, ns) => L (ns.map I)
  | (false, ns) => Tu K (ns.map I)
def rowBD (y : Bool × List Int) : PyData := match y with
  | (true, ns) => .list (ns.map PyData.int)
  | (false, ns) => .tuple (ns.map PyData.int)
instance {y : Bool × List Int} : ToD K (rowB K y) (rowBD y) := match y with
  | (true, ns) => (inferInstance : ToD K (L (ns.map I)) (.list (ns.map PyData.int)))
  | (false, ns) => (inferInstance : ToD K (Tu K (ns.map I)) (.tuple (ns.map PyData.int)))
theorem rowB_sq {y : Bool × List Int} : SqOf K (rowB K y) (y.2.map I) := match y with
  | (true, _) => .lst
  | (false, _) => .tup
theorem rowB_ok {y : Bool × List Int} (l : y.2.length ≤ 1000000) : Vb.DOk 4 (rowBD y) := match y, l with
  | (true, _), l => dok_lm l fun _ => trivial
  | (false, _), l => dok_tm l fun _ => trivial
/-- a copy of a list of rows -/
def φ_copyP (K : PySem.W.Frag) : PSp := fun As k _ => ∃ (ys : List (Bool × List Int)), As = [L (ys.map (rowB K))] ∧ ys.length ≤ 1000 ∧ (∀ y ∈ ys, y.2.length ≤ 1000000) ∧ k (.o (Lc (ys.map (rowB K))))
theorem ok_copyP (T : Txt K mg) : FnOk P w K mg base (L2N.CX P w) 7 T.f__law_copy T.fd__law_copy ["value"] (toSp (φ_copyP K)) := by
  have G__law_copy := ok_copyR (P := P) (w := w) (base := base) T
  refine okP T.d__law_copy.F sc__law_copy (by decide) (fun As k X h => by obtain ⟨_, rfl, _⟩ := h; rfl) fun cdv A0 outer s H E c As kk X hr hX h => ?_
  obtain ⟨ys, rfl, ly, hy, q⟩ := h
  refine ⟨_, (pss_cons (ps_if (pt_val (pe_callB call_isi (by rfl) T.n_isinstance (by decide +kernel) (pa_cons (pv 0) (pa_cons (pe_bltn (v := .ty "list") (by rfl) T.n_list (by decide +kernel) rfl) pa_nil)))) (pss_one (ps_ret (pe_lc (own := [("item", 1)]) (g := gName 1) (tt := tYes) rfl sc__law_copy.nd (pi_list (pv 0)) (blkOk_by (own := [("item", 1)]) (N := N__law_copy) (sc := defScope s__law_copy) (by decide +kernel)) (fun _ _ _ _ _ => (pg_name (i := 1) sc__law_copy.nd rfl (by first | exact Or.inl rfl | exact Or.inr rfl))) (fun _ _ _ _ _ => pts_nil) (fun _ _ _ _ _ => (pe_call G__law_copy (hr.mono (by first | decide | omega)) (by rfl) T.d__law_copy.g T.d__law_copy.F.kp T.d__law_copy.b .nil Vb.pass5 (pa_cons (pv 1) pa_nil)))))) pss_nil)
      (pss_cons (ps_if (pt_val (pe_callB call_isi (by rfl) T.n_isinstance (by decide +kernel) (pa_cons (pv 0) (pa_cons (pe_bltn (v := .ty "tuple") (by rfl) T.n_tuple (by decide +kernel) rfl) pa_nil)))) (pss_one (ps_ret (pe_callTy Vb.call_tuple (by rfl) T.n_tuple (by decide +kernel) (pa_cons (pe_lc (own := [("item", 1)]) (g := gName 1) (tt := tYes) rfl sc__law_copy.nd (pi_tup (pv 0)) (blkOk_by (own := [("item", 1)]) (N := N__law_copy) (sc := defScope s__law_copy) (by decide +kernel)) (fun _ _ _ _ _ => (pg_name (i := 1) sc__law_copy.nd rfl (by first | exact Or.inl rfl | exact Or.inr rfl))) (fun _ _ _ _ _ => pts_nil) (fun _ _ _ _ _ => (pe_call G__law_copy (hr.mono (by first | decide | omega)) (by rfl) T.d__law_copy.g T.d__law_copy.F.kp T.d__law_copy.b .nil Vb.pass5 (pa_cons (pv 1) pa_nil)))) pa_nil)))) pss_nil)
      (pss_one (ps_ret (pv 0))))), ?_⟩
  change Pu.W _ _ [.v (L (ys.map (rowB K))), .un] _
  walk_at "pw"
  refine lcM_map (g := rowB K) (by omega) (fun c' i y hi => ?_) ?_
  · have hl := hy y (List.mem_of_getElem? hi)
    walk_at "pw"
    obtain ⟨b, ns⟩ := y
    cases b with
    | true =>
      refine ⟨ns, hl, .inl ⟨rfl, ?_⟩⟩
      walk_at "pw"
      exact ⟨rfl, rfl⟩
    | false =>
      refine ⟨ns, hl, .inr ⟨rfl, ?_⟩⟩
      walk_at "pw"
      exact ⟨rfl, rfl⟩
  walk_at "pw"
  exact q
end
end K
namespace K
open PySem PySem.Spec PyProof.Rows L2
section
variable {P : Program} {w : World} {K : PySem.W.Frag} {mg : Str → Option Value} {base : Heap}
open Pu
theorem fnH_imp {k : Nat} {f : Addr} {fd : FuncData} {ps : List Str} {sp sp' : Sp} (F : L2H.FnH P w K mg base CX0 k f fd ps sp) (i : ∀ vs H Q E, sp' vs H Q E → sp vs H Q E) : L2H.FnH P w K mg base CX0 k f fd ps sp' := ⟨fun vs H Q E h => F.len vs H Q E (i _ _ _ _ h), fun A outer s H args us vs Q E p a b c d e g h => F.run A outer s H args us vs Q E p a b c d e g (i _ _ _ _ h)⟩
theorem okhp_same (T : Txt K mg) (n : Nat) : L2H.FnH P w K mg base CX0 (n + 1) T.f__law_same T.fd__law_same ["actual", "expected"] (toSp (φ_same K n)) := fnH_imp (okh_same T n) fun vs H Q E h => by
  obtain ⟨B, As, k, X, ⟨A, A', d, rfl, h1, h2, h3, q⟩, b, a, s, q1, _⟩ := h
  obtain ⟨x, y, rfl, g1, g2⟩ := two a
  cases n with
  | zero => exact h3.elim
  | succ n => exact ⟨x, y, d, rfl, Vb.dp_same b _ _ (h1 _ _ g1), Vb.dp_same b _ _ (h2 _ _ g2), h3, q1 B _ _ H q (nxt_same b (Same.refl H)) rfl⟩
end
end K
namespace K
open PySem PySem.Spec PyProof.Rows L2
section
open PySem PySem.Spec PyProof.Rows L2 Pu
theorem w_asgG {so : Option Addr} {c : Ct so} {env : Ev} {te : TE} {K : PySem.W.Frag} {n : Nat} {gs : TGs} {nx : Ev → Prop} {rt : Rs → Prop} {bk ct : Ev → Prop} (h : Pu.E c te env fun r env1 => G c (gTup K n gs) r env1 nx) : W c (tAsg te (gTup K n gs)) env ⟨nx, rt, bk, ct⟩ := fun S σ H d R e => h S σ H _ R fun S1 x H1 r env1 g1 e1 R1 q1 => g1 S1 σ H1 x _ R1 q1 fun S2 σ2 H2 env2 p e2 R2 => e.nx S2 env2 σ2 H2 p (e1.trans e2) R2
end
end K
namespace K
open PySem PySem.Spec PyProof.Rows L2
section
open PySem PySem.Spec PyProof.Rows L2 Pu
/-! ### promises that tell of the caller's facts B: what is new -/
abbrev PSpB := Hp → PSp
def CoreB (so : Option Addr) (φ : PSpB) (vs : List V) (H : Hp) (Q : VK) (E : XK) : Prop := ∃ B As k X, φ B As k X ∧ Same B H ∧ All B As vs ∧ (∀ st, so = some st → Vb.StoreAt H st ∧ B st = none) ∧
  (∀ S r x H', k r → Nxt so B H S H' → Rt H S H' r x → Q x H') ∧ ∀ C fs d S H', X C fs → Nxt so B H S H' → Er S d fs → E (.ref C) d H'
def toSpB (φ : PSpB) : Sp := fun vs H Q E => CoreB none φ vs H Q E
def toSpSB (φ : PSpB) : Sp := fun vs H Q E => ∃ st us, vs = .ref st :: us ∧ CoreB (some st) φ us H Q E
/-- a new list: B doesn't have it -/
def Nl (B : Hp) (As : List Asn) : Asn := ⟨fun S v => ∃ a xs, v = .ref a ∧ S a = some (.lst xs) ∧ B a = none ∧ All S As xs, fun e ⟨a, xs, h, g, n, k⟩ => ⟨a, xs, h, e _ _ g, n, k.up e⟩⟩
theorem nl_L {B : Hp} {As : List Asn} : Imp (Nl B As) (L As) := fun _ _ ⟨a, xs, h, g, _, k⟩ => ⟨a, xs, h, g, k⟩
theorem nl_sq {B : Hp} {K : PySem.W.Frag} {As : List Asn} : SqOf K (Nl B As) As := fun _ _ ⟨a, xs, h, g, _, k⟩ => ⟨a, xs, h, .inl g, k⟩
theorem imps_mapN {α : Type} {f g : α → Asn} (h : ∀ x, Imp (f x) (g x)) : ∀ {xs : List α}, Imps (xs.map f) (xs.map g)
  | [] => .nil
  | x :: _ => .cons (h x) (imps_mapN h)
theorem none_of_same {B B0 : Hp} (h : Same B B0) {a : Addr} (n : B0 a = none) : B a = none := by
  cases y : B a with
  | none => rfl
  | some o => have := h a o y; rw [n] at this; cases this
theorem nq_mono {B B0 : Hp} {K : PySem.W.Frag} {As : List Asn} (h : Same B B0) : Imp (Nq B0 K As) (Nq B K As) := fun _ _ ⟨a, xs, e, g, q⟩ => ⟨a, xs, e, g.imp (fun z => ⟨z.1, none_of_same h z.2⟩) id, q⟩
theorem nl_mono {B B0 : Hp} {As : List Asn} (h : Same B B0) : Imp (Nl B0 As) (Nl B As) := fun _ _ ⟨a, xs, e, g, n, q⟩ => ⟨a, xs, e, g, none_of_same h n, q⟩
theorem nq_imp {B : Hp} {K : PySem.W.Frag} {As Bs : List Asn} (i : Imps As Bs) : Imp (Nq B K As) (Nq B K Bs) := fun _ _ ⟨a, xs, e, g, q⟩ => ⟨a, xs, e, g, i.all q⟩
theorem r_isNl {so : Option Addr} {c : Ct so} {K K' : PySem.W.Frag} {env : Ev} {k : Rs → Ev → Prop} {B : Hp} {As : List Asn} (e0 : K' = K) (q : k (.v (Bo true)) env) : RL c (rIsi K') [.v (Nl B As), .v (Vl (.ty "list"))] env k := fun S σ H xs Q R qs z => by
  subst e0
  obtain _ | ⟨x', _ | ⟨y', _ | ⟨z', xs⟩⟩⟩ := xs
  · exact qs.elim
  · exact qs.2.elim
  · obtain ⟨a, ys, rfl, s, _, _⟩ := qs.1.2
    cases (show y' = .ty "list" from qs.2.1.2)
    exact ⟨_, _, _, _, true, rfl, .ty _, .base (.lst (R.sh _ _ s)), kit_ty (a := "list") (b := "list") (by decide +kernel), z S _ H _ env q (Same.refl S) R rfl⟩
  · exact qs.2.2.elim
section
variable {P : Program} {w : World} {K : PySem.W.Frag} {mg : Str → Option Value} {base : Heap}
theorem okPB {x qual : Str} {sd : Stmt} {f : Addr} {fd : FuncData} {N ps : List Str} {k : Nat} {φ : PSpB} (F : Fun K x qual sd f fd) (S : FnScope N ps (defScope sd)) (hl : ps.length ≤ N.length) (len : ∀ B As k X, φ B As k X → As.length = ps.length)
    (hbody : ∀ (cdv : Value) (A : Around) (outer : List _root_.PySem.Env) (s : Shared) (H : Hp) (E : XK) (c : Ct none) (As : List Asn) (kk : Rs → Prop) (X : XP), Room k (A.deeper (envOfC qual (defScope sd) s.heap.objs.size f cdv)) → ExOk c (fun _ => X) (fun _ => E) → φ c.B As kk X →
      ∃ t, PSs (cxOf (L2N.CX P w) P w K mg base N qual (defScope sd) f cdv A outer s H E) (defBody sd) t ∧ W c t (envOf N.length (As.map Sl.v)) ⟨fun _ => kk (.v No), kk, fun _ => False, fun _ => False⟩) : FnOk P w K mg base (L2N.CX P w) (k + 1) f fd ps (toSpB φ) := by
  refine Vb.okN F S (fun vs H Q E h => ?_) (fun cdv A outer s H vs Q E hr h => ?_)
  · obtain ⟨B, As, kk, X, p, _, a, _⟩ := h
    rw [← a.len]
    exact len _ _ _ _ p
  · obtain ⟨B, As, kk, X, p, b, a, _, q1, q2⟩ := h
    have l : vs.length ≤ N.length := by rw [← a.len, len _ _ _ _ p]; exact hl
    have R := rep0 (so := none) (N := N) l a b (fun _ z => by cases z)
    obtain ⟨t, h1, h2⟩ := hbody cdv A outer s H E ⟨B, H, fun _ => none⟩ As kk X hr (fun S' env σ H' C fs d g R' w => q2 C fs d S' H' g R'.nxt w) p
    refine ⟨t, h1, h2 _ _ _ _ R ⟨fun S' env σ H' g _ R' => q1 S' _ .non H' g R'.nxt rfl, fun S' env σ H' r x g _ R' w => q1 S' r x H' g R'.nxt (rt_of w), fun _ _ _ _ z => z.elim, fun _ _ _ _ z => z.elim⟩⟩
theorem okPSB {x qual : Str} {sd : Stmt} {f : Addr} {fd : FuncData} {N ps : List Str} {k : Nat} {φ : PSpB} (F : Fun K x qual sd f fd) (S : FnScope N ps (defScope sd)) (hl : ps.length ≤ N.length) (len : ∀ B As k X, φ B As k X → As.length + 1 = ps.length)
    (hbody : ∀ (cdv : Value) (A : Around) (outer : List _root_.PySem.Env) (s : Shared) (H : Hp) (E : XK) (st : Addr) (c : Ct (some st)) (As : List Asn) (kk : Rs → Prop) (X : XP), Room k (A.deeper (envOfC qual (defScope sd) s.heap.objs.size f cdv)) → ExOk c (fun _ => X) (fun _ => E) → φ c.B As kk X →
      ∃ t, PSs (cxOf (L2N.CX P w) P w K mg base N qual (defScope sd) f cdv A outer s H E) (defBody sd) t ∧ W c t (envOf N.length (.v (Rf st) :: As.map Sl.v)) ⟨fun _ => kk (.v No), kk, fun _ => False, fun _ => False⟩) : FnOk P w K mg base (L2N.CX P w) (k + 1) f fd ps (toSpSB φ) := by
  refine Vb.okN F S (fun vs H Q E h => ?_) (fun cdv A outer s H vs Q E hr h => ?_)
  · obtain ⟨st, us, rfl, B, As, kk, X, p, _, a, _⟩ := h
    rw [List.length_cons, ← a.len]
    exact len _ _ _ _ p
  · obtain ⟨st, us, rfl, B, As, kk, X, p, b, a, s0, q1, q2⟩ := h
    have l : (V.ref st :: us).length ≤ N.length := by rw [List.length_cons, ← a.len, len _ _ _ _ p]; exact hl
    have R := rep0 (so := some st) (N := N) (As := Rf st :: As) (vs := .ref st :: us) l ⟨rfl, a⟩ b s0
    obtain ⟨t, h1, h2⟩ := hbody cdv A outer s H E st ⟨B, H, fun _ => none⟩ As kk X hr (fun S' env σ H' C fs d g R' w => q2 C fs d S' H' g R'.nxt w) p
    refine ⟨t, h1, h2 _ _ _ _ R ⟨fun S' env σ H' g _ R' => q1 S' _ .non H' g R'.nxt rfl, fun S' env σ H' r x g _ R' w => q1 S' r x H' g R'.nxt (rt_of w), fun _ _ _ _ z => z.elim, fun _ _ _ _ z => z.elim⟩⟩
end
section
variable {so : Option Addr} {c : Ct so} {K : PySem.W.Frag} {env env' : Ev} {k : Rs → Ev → Prop} {te ta tb : TE} {tt : TT} {t : TA} {g : TG}
/-- the question behind the arguments, whatever is known by then -/
def ClB (c : Ct so) (φ : PSpB) (rs : List Rs) (env : Ev) (k : Rs → Ev → Prop) (X : XE) : Prop := ∀ B0 : Hp, Same c.B B0 → ∃ As, Ps env false rs As ∧ φ B0 As (fun r => k r env) fun C fs => X env C fs
theorem e_callB {φ : PSpB} {X : XE} {Ex : L2.St → XK} (hx : ExOk c X Ex) (h : EA c t env fun rs env1 => ClB c φ rs env1 k X) : E c (tCallS (toSpB φ) Ex t) env k := fun S σ H Q R z => by
  refine Vb.r_callS (h S σ H _ R fun S1 xs H1 rs env1 g1 e1 R1 q1 => ?_)
  obtain ⟨As, hp, p⟩ := g1 S1 R1.bs
  exact ⟨S1, As, _, _, p, R1.sh, hp.allF R1 q1, fun _ z => (by cases z), fun S' r x H' g n w => z S' x H' r env1 g (e1.trans n.b) (R1.after (n.store R1.stf)) (R1.rt w), fun C fs d S' H' g n w => hx S' env1 σ H' C fs d g (R1.after (n.store R1.stf)) w⟩
end
section
variable {st : Addr} {c : Ct (some st)} {K : PySem.W.Frag} {env env' : Ev} {k : Rs → Ev → Prop} {te ta tb : TE} {t : TA}
def ClSB (st : Addr) (c : Ct (some st)) (φ : PSpB) (rs : List Rs) (env : Ev) (k : Rs → Ev → Prop) (X : XE) : Prop := ∃ rs', rs = .v (Rf st) :: rs' ∧ ClB c φ rs' env k X
theorem clsB {φ : PSpB} {rs : List Rs} {X : XE} (h : ClB c φ rs env k X) : ClSB st c φ (.v (Rf st) :: rs) env k X := ⟨rs, rfl, h⟩
theorem clSB_go {φ : PSpB} {rs : List Rs} {X : XE} {Ex : L2.St → XK} {S H : Hp} {σ : L2.St} {xs : List V} {Q : VK} (h : ClSB st c φ rs env k X) (hx : ExOk c X Ex) (R : Rep c S env σ H) (q : Oks c S H env σ rs xs) (z : ∀ S' x H' r env', k r env' → Same S S' → Rep c S' env' σ H' → ROk c S' H' env' σ r x → Q x H') : toSpSB φ xs H Q (Ex σ) := by
  obtain ⟨rs', rfl, h⟩ := h
  cases xs with
  | nil => exact q.elim
  | cons x xs =>
    cases (show x = .ref st from q.1.2)
    obtain ⟨As, hp, p⟩ := h S R.bs
    exact ⟨st, xs, rfl, S, As, _, _, p, R.sh, hp.allF R q.2, fun st e => ⟨R.stf st e, R.sf st e⟩, fun S' r x H' g n w => z S' x H' r env g n.b (R.after n) (R.rt w), fun C fs d S' H' g n w => hx S' env σ H' C fs d g (R.after n) w⟩
theorem e_callSSB {φ : PSpB} {X : XE} {Ex : L2.St → XK} (hx : ExOk c X Ex) (h : EA c t env fun rs env1 => ClSB st c φ rs env1 k X) : E c (tCallS (toSpSB φ) Ex t) env k := fun S σ H Q R z => by
  refine Vb.r_callS (h S σ H _ R fun S1 xs H1 rs env1 g1 e1 R1 q1 => ?_)
  exact clSB_go g1 hx R1 q1 fun S' x H' r env' g e => z S' x H' r env' g (e1.trans e)
theorem e_callZB {φ : PSpB} {Ex : XK} (h : EA c t env fun rs env1 => ClSB st c φ rs env1 k fun _ _ _ => False) : E c (tCall (toSpSB φ) [] Ex t) env k := fun S σ H Q R z => by
  refine Vb.r_call (h S σ H _ R fun S1 xs H1 rs env1 g1 e1 R1 q1 => ?_)
  exact clSB_go (Ex := fun _ => Ex) g1 ExOk.none R1 q1 fun S' x H' r env' g e => z S' x H' r env' g (e1.trans e)
end
section
variable {so : Option Addr} {c : Ct so} {K : PySem.W.Frag} {env env' : Ev} {k : Rs → Ev → Prop} {te ta tb : TE} {tt : TT} {t : TA} {g : TG}
/-- a new list or a tuple: that it is new is kept -/
theorem e_new {Bs : List Asn} (h : Pu.E c te env fun r env1 => env1 = env' ∧ NewR K r Bs) (q : k (.v (Nq c.B K Bs)) env') : Pu.E c te env k := fun S σ H Q R z => by
  refine h S σ H _ R fun S1 x H1 r env1 g1 e1 R1 q1 => ?_
  obtain ⟨rfl, g1⟩ := g1
  have key : ∃ S2, Same S1 S2 ∧ Rep c S2 env1 σ H1 ∧ (Nq c.B K Bs).r S2 x := by
    rcases g1 with rfl | rfl
    · obtain ⟨a, ob, rfl, h1, h2, h3, h4, hg, h5⟩ := q1
      have e := Vb.same_new (o := ob) h3
      obtain ⟨xs, rfl, h2⟩ := h2
      refine ⟨_, e, R1.share h1 h3 h4 hg h5, a, xs, rfl, .inl ⟨upd_same, ?_⟩, h2.up e⟩
      cases y : c.B a with
      | none => rfl
      | some o => have := R1.bs a o y; rw [h3] at this; cases this
    · obtain ⟨a, xs, rfl, h1, h2⟩ := q1
      exact ⟨S1, Same.refl _, R1, a, xs, rfl, .inr h1, h2⟩
  obtain ⟨S2, e2, R2, q2⟩ := key
  exact z S2 x H1 _ env1 q (e1.trans e2) R2 q2
theorem e_newL {Bs : List Asn} (h : Pu.E c te env fun r env1 => env1 = env' ∧ r = .o (Lc Bs)) (q : k (.v (Nl c.B Bs)) env') : Pu.E c te env k := fun S σ H Q R z => by
  refine h S σ H _ R fun S1 x H1 r env1 g1 e1 R1 q1 => ?_
  obtain ⟨rfl, rfl⟩ := g1
  obtain ⟨a, ob, rfl, h1, h2, h3, h4, hg, h5⟩ := q1
  have e := Vb.same_new (o := ob) h3
  obtain ⟨xs, rfl, h2⟩ := h2
  refine z _ _ H1 _ env1 q (e1.trans e) (R1.share h1 h3 h4 hg h5) ⟨a, xs, rfl, upd_same, ?_, h2.up e⟩
  cases y : c.B a with
  | none => rfl
  | some o => have := R1.bs a o y; rw [h3] at this; cases this
/-- a comprehension whose items are new too -/
def LcGB (c : Ct so) (As : List Asn) (vs : List Nat) (g : TG) (tt : TT) (te : TE) (env : Ev) (kk : List Asn → Prop) : Prop := ∃ Inv : Nat → List Asn → Prop, Inv 0 [] ∧ (∀ (c' : Ct so), c'.B = c.B → ∀ i A acc, As[i]? = some A → Inv i acc → GV c' vs g A (unE env vs) fun env1 => LcS c' tt te env1 acc (Inv (i + 1))) ∧ ∀ acc, Inv As.length acc → kk acc
theorem e_lcGB {wi : TI} {vs us : List Nat} (hu : us = vs) (h : IT c wi env fun As env1 => NoOwns env1 vs ∧ LcGB c As vs g tt te env1 fun acc => k (.o (Lc acc)) env1) : Pu.E c (tLc wi g tt te us) env k := fun S σ H Q R z => by
  subst hu
  refine Vb.r_lc (h S σ H _ R fun S1 J H1 As env1 g1 e1 R1 q1 => ?_)
  obtain ⟨no, Inv, i0, is, ie⟩ := g1
  intro D nD
  have nn := no.all
  refine ⟨fun i m H' => m = As.length - i ∧ i ≤ As.length ∧ ∃ S' acc, Inv i acc ∧ Same S1 S' ∧ Fill c S' env1 σ H' D acc, ⟨As.length - 0, rfl, Nat.zero_le _, S1, [], i0, Same.refl S1, .new R1 nD⟩, ?_⟩
  rintro i m H' ⟨rfl, hi, S', acc, hI, e', F⟩
  by_cases zz : i = As.length
  · subst zz
    exact .inl ⟨(q1 c).stop S' env1 σ H' e' F.R, z S' _ H' _ env1 (ie acc hI) (e1.trans e') F.R F.done⟩
  · refine .inr ?_
    have hA : As[i]? = some (As[i]'(by omega)) := List.getElem?_eq_getElem (by omega)
    obtain ⟨ys, hD, hys⟩ := F.h
    have RH := F.R.hold hD (fun z => z) F.h0 F.hs F.no
    obtain ⟨g1, g2⟩ := (q1 (c.hold D (.lst ys))).go S' env1 σ H' i _ e' RH hA
    refine ⟨g1, fun H2 => ∃ S2 acc', Inv (i + 1) acc' ∧ Same S1 S2 ∧ Fill c S2 env1 σ H2 D acc', fun H2 ⟨S2, acc', a, b, d⟩ => ⟨_, by omega, rfl, by omega, S2, acc', a, b, d⟩, fun x H2 hy => ?_⟩
    obtain ⟨S2, e2, R2, rA, _⟩ := g2 x H2 hy
    refine is (c.hold D (.lst ys)) rfl i _ acc hA hI S2 _ H2 x _ (R2.wiped us) rA fun σ3 env3 g3 R3 w3 n3 => ⟨w3.trans wipe_wipe, ?_⟩
    refine lcs_run g3 R3 (hys.up e2) F.hg fun S4 H4 acc' ys' hN e4 R4 hD4 hy4 hs4 => ⟨S4, acc', hN, e'.trans (e2.trans e4), (R2.unhold F.hg).backV e4 nn R4 (fun j n => ?_) (fun j n => ?_), ⟨ys', hD4, hy4⟩, F.h0, hs4, F.hg, F.no⟩
    · rw [n3 j n, unE_out n]
    · exact wipe_out_eq (w3.trans wipe_wipe) n
theorem lcGB {As : List Asn} {vs : List Nat} {kk : List Asn → Prop} (Inv : Nat → List Asn → Prop) (h0 : Inv 0 []) (hs : ∀ (c' : Ct so), c'.B = c.B → ∀ i A acc, As[i]? = some A → Inv i acc → GV c' vs g A (unE env vs) fun env1 => LcS c' tt te env1 acc (Inv (i + 1))) (hd : ∀ acc, Inv As.length acc → kk acc) : LcGB c As vs g tt te env kk := ⟨Inv, h0, hs, hd⟩
theorem lcGB_map {α : Type} {f h : α → Asn} {xs : List α} (l : xs.length ≤ 16777216) (hs : ∀ (c' : Ct so), c'.B = c.B → ∀ (i : Nat) (x : α), xs[i]? = some x → GV c' vs g (f x) (unE env vs) fun env1 => E c' te env1 fun r e => Z r fun r1 => Fz [r1] e fun Bs e' => Bs = [h x] ∧ e' = env1) (hd : kk (xs.map h)) : LcGB c (xs.map f) vs g tYes te env kk := by
  refine lcGB (fun i acc => acc = (xs.take i).map h) rfl ?_ ?_
  · rintro c' hB i A acc hA rfl
    rw [List.getElem?_map] at hA
    cases hx : xs[i]? with
    | none => rw [hx] at hA; cases hA
    | some x =>
      rw [hx] at hA
      cases hA
      have li := (List.getElem?_eq_some_iff.mp hx).1
      refine (hs c' hB i x hx).imp fun env1 z => lcs_yes (z.imp fun _ _ z => Z.imp (fun _ z => Fz.imp (fun _ _ ⟨h1, h2⟩ => ⟨h x, h x, h1, Imp.rfl, h2, by rw [List.length_map, List.length_take]; omega, ?_⟩) z) z)
      rw [List.take_add_one, hx, List.map_append]
      rfl
  · rintro acc rfl
    rw [List.length_map, List.take_length]
    exact hd
end
/-! ### a list is spoilt whose items are lists or tuples -/
def updL (H : Hp) (us : List (Addr × List V)) : Hp := us.foldl (fun H u => upd H u.1 (.lst u.2)) H
theorem updL_snoc {H : Hp} {us : List (Addr × List V)} {u : Addr × List V} : updL H (us ++ [u]) = upd (updL H us) u.1 (.lst u.2) := by
  unfold updL
  rw [List.foldl_append]
  rfl
/-- only lists are changed: the one at a, and lists in it -/
def spSpoilN (_ : PySem.W.Frag) : Sp := fun vs H Q _ => ∃ (a : Addr) (xs : List V), vs = [.ref a] ∧ H a = some (.lst xs) ∧ xs.length ≤ 1000000 ∧
  (∀ x ∈ xs, ∃ b, x = .ref b ∧ ((b ≠ a ∧ ∃ ys, H b = some (.lst ys) ∧ ys.length ≤ 1000) ∨ ∃ ys, H b = some (.tup ys))) ∧
  ∀ us : List (Addr × List V), (∀ u ∈ us, u.1 = a ∨ (V.ref u.1 ∈ xs ∧ ∃ ys, H u.1 = some (.lst ys))) → Q .non (updL H us)
section
variable {so : Option Addr} {c : Ct so} {K : PySem.W.Frag} {env env' : Ev} {k : Rs → Ev → Prop} {nx : Ev → Prop} {rt : Rs → Prop} {bk ct : Ev → Prop} {te : TE} {ts tu : TS}
/-- the lists that B doesn't have are forgotten -/
structure Fg (B S S' : Hp) : Prop where
  bs : Same B S'
  le : Same S' S
  nl : ∀ b o, S b = some o → NLk o → S' b = some o
  no : ∀ b xs, S b = some (.lst xs) → B b = none → S' b = none
open Classical in
theorem fg_ex (B S : Hp) (h : Same B S) : ∃ S', Fg B S S' := by
  refine ⟨fun a => if B a = none ∧ ∃ xs, S a = some (.lst xs) then none else S a, fun b o g => ?_, fun b o g => ?_, fun b o g l => ?_, fun b xs g n => if_pos ⟨n, xs, g⟩⟩
  · rw [if_neg fun z => by rw [g] at z; cases z.1]
    exact h b o g
  · by_cases z : B b = none ∧ ∃ xs, S b = some (.lst xs)
    · rw [if_pos z] at g; cases g
    · rw [if_neg z] at g; exact g
  · rw [if_neg fun z => by
      obtain ⟨_, xs, h1⟩ := z
      rw [g] at h1
      cases h1
      exact l]
    exact g
def KA (B : Hp) (A A' : Asn) : Prop := ∀ S S' x, Fg B S S' → A.r S x → A'.r S' x
theorem ka_nl {B : Hp} {A : Asn} [h : NL A] : KA B A A := fun S S' x f g => h.nl f.nl g
theorem ka_bb {B : Hp} {A : Asn} : KA B (Bb B A) (Bb B A) := fun S S' x f g => bb_mk (A.up f.bs (bb_b g)) (bb_b g)
def KS (B : Hp) : Sl → Sl → Prop
  | _, .un => True
  | .v A, .v A' => KA B A A'
  | .o C, .o C' => ∀ S S' a o, Fg B S S' → C.r S a o → C'.r S' a o
  | _, _ => False
theorem ks_un {B : Hp} {s : Sl} : KS B s .un := by cases s <;> trivial
theorem ks_v {B : Hp} {A A' : Asn} (h : KA B A A') : KS B (.v A) (.v A') := h
theorem ks_nl {B : Hp} {C : Cn} [h : NLC C] : KS B (.o C) (.o C) := fun S S' a o f g => h.nl f.nl g
inductive Kss (B : Hp) : Ev → Ev → Prop
  | nil : Kss B [] []
  | cons {s s' : Sl} {e e' : Ev} : KS B s s' → Kss B e e' → Kss B (s :: e) (s' :: e')
theorem kss_at {B : Hp} {e e' : Ev} (h : Kss B e e') : e.length = e'.length ∧ ∀ (i : Nat) (s' : Sl), e'[i]? = some s' → ∃ s : Sl, e[i]? = some s ∧ KS B s s' := by
  induction h with
  | nil => exact ⟨rfl, fun i s' g => by simp at g⟩
  | cons a _ ih =>
    refine ⟨by rw [List.length_cons, List.length_cons, ih.1], fun i s' g => ?_⟩
    cases i with
    | zero => cases Option.some.inj g; exact ⟨_, rfl, a⟩
    | succ i => exact ih.2 i s' (by simpa using g)
theorem rep_forgetL {S S' H : Hp} {σ : L2.St} (R : Rep c S env σ H) (f : Fg c.B S S') (h : Kss c.B env env') : Rep c S' env' σ H ∧ ∀ a xs, S a = some (.lst xs) → c.B a = none → S' a = none ∧ c.H0 a = none ∧ c.G a = none ∧ ∀ i, ¬ Own env' σ i a := by
  obtain ⟨hl, hk⟩ := kss_at h
  have own : ∀ i a, Own env' σ i a → Own env σ i a := fun i a ⟨⟨C, h1⟩, h2⟩ => by
    obtain ⟨s, g1, g2⟩ := hk i _ h1
    cases s with
    | o C0 => exact ⟨⟨C0, g1⟩, h2⟩
    | v A => exact g2.elim
    | un => exact g2.elim
  have sn : ∀ a, S a = none → S' a = none := fun a z => by
    cases y : S' a with
    | none => rfl
    | some o => have := f.le a o y; rw [z] at this; cases this
  refine ⟨⟨R.frm, f.bs, f.le.trans R.sh, fun b o g => R.nw b o (f.le b o g), fun st z => sn st (R.sf st z), hl ▸ R.len, R.s0, fun i s g => ?_, fun i j a g1 g2 => R.dj i j a (own i a g1) (own j a g2), fun i a g => ⟨(R.fr i a (own i a g)).1, sn a (R.fr i a (own i a g)).2⟩, fun b o g => ?_⟩, fun a xs h1 hb => ?_⟩
  · obtain ⟨s0, g1, g2⟩ := hk i s g
    obtain ⟨u, g3, g4⟩ := R.sl i s0 g1
    refine ⟨u, g3, ?_⟩
    cases s with
    | un => exact trivial
    | v A' =>
      cases s0 with
      | v A => obtain ⟨x, e, y⟩ := g4; exact ⟨x, e, g2 S S' x f y⟩
      | o C => exact g2.elim
      | un => exact g2.elim
    | o C' =>
      cases s0 with
      | o C => obtain ⟨a, ob, e, y1, y2⟩ := g4; exact ⟨a, ob, e, y1, g2 S S' a ob f y2⟩
      | v A => exact g2.elim
      | un => exact g2.elim
  · obtain ⟨x1, x2, x3, x4, x5⟩ := R.gh b o g
    exact ⟨x1, x2, sn b x3, x4, fun i y => x5 i (own i b y)⟩
  · refine ⟨f.no a xs h1 hb, ?_, ?_, fun i y => ?_⟩
    · rcases R.nw a _ h1 with z | z | z
      · rw [hb] at z; cases z
      · exact z
      · exact z.elim
    · cases y : c.G a with
      | none => rfl
      | some o =>
        have := (R.gh a o y).2.2.1
        rw [h1] at this
        cases this
    · have := (R.fr i a (own i a y)).2
      rw [h1] at this
      cases this
/-- what may be spoilt -/
def SpA (B S : Hp) (v : V) : Prop := ∃ a xs, v = .ref a ∧ S a = some (.lst xs) ∧ B a = none ∧ xs.length ≤ 1000000 ∧ ∀ x ∈ xs, ∃ b, x = .ref b ∧ ((b ≠ a ∧ ∃ ys, S b = some (.lst ys) ∧ B b = none ∧ ys.length ≤ 1000) ∨ ∃ ys, S b = some (.tup ys))
theorem rep_touchL {S : Hp} {σ : L2.St} : ∀ (us : List (Addr × List V)) {H : Hp}, Rep c S env σ H → (∀ u ∈ us, S u.1 = none ∧ c.H0 u.1 = none ∧ c.G u.1 = none ∧ ∀ i, ¬ Own env σ i u.1) → Rep c S env σ (updL H us)
  | [], _, R, _ => R
  | u :: us, H, R, h => by
    obtain ⟨h1, h2, h3, h4⟩ := h u List.mem_cons_self
    exact rep_touchL us (H := upd H u.1 (.lst u.2)) (R.touch h1 h2 h3 h4) fun u m => h u (List.mem_cons_of_mem _ m)
theorem spoil_run {S H : Hp} {σ : L2.St} {v : V} {Q : VK} {E : XK} (R : Rep c S env σ H) (hv : SpA c.B S v) (h : Kss c.B env env') (q : ∀ S' H', Rep c S' env' σ H' → Q .non H') : spSpoilN K [v] H Q E := by
  obtain ⟨a, xs, rfl, s, n, l, hx⟩ := hv
  obtain ⟨S', f⟩ := fg_ex c.B S R.bs
  obtain ⟨R', hn⟩ := rep_forgetL R f h
  refine ⟨a, xs, rfl, R.sh _ _ s, l, fun x m => ?_, fun us hu => q S' _ (rep_touchL us R' fun u mu => ?_)⟩
  · obtain ⟨b, e, g⟩ := hx x m
    exact ⟨b, e, g.imp (fun ⟨h0, ys, h1, _, h2⟩ => ⟨h0, ys, R.sh _ _ h1, h2⟩) fun ⟨ys, h1⟩ => ⟨ys, R.sh _ _ h1⟩⟩
  · rcases hu u mu with e | ⟨m, ys, hy⟩
    · rw [e]
      exact hn a xs s n
    · obtain ⟨b, e, g⟩ := hx _ m
      cases e
      rcases g with ⟨_, zs, h1, h2, _⟩ | ⟨zs, h1⟩
      · exact hn _ zs h1 h2
      · have := R.sh _ _ h1
        rw [hy] at this
        cases this
/-- _law_spoil_list(x), x a variable -/
theorem wb_spoilN {i : Nat} {A : Asn} {Ex : L2.St → XK} (e : env[i]? = some (.v A)) (hA : ∀ S v, A.r S v → SpA c.B S v) (h : Kss c.B env env') (q : WB c tu env' ⟨nx, rt, bk, ct⟩) : WB c (tSeq (tDrop (tCallS (spSpoilN K) Ex (tCons (tVar i) tNil))) tu) env ⟨nx, rt, bk, ct⟩ := fun S σ H d R w => by
  obtain ⟨x, h1, h2⟩ := R.at_ e
  refine Vb.r_seq (Vb.r_drop (Vb.r_callS (Vb.r_cons (Vb.r_var h1 (Vb.r_nil ?_)))))
  exact spoil_run R (hA S x h2) h fun S' H' R' => q S' σ H' d R' w
/-- .. the last statement -/
theorem wb_spoilE {i : Nat} {A : Asn} {Ex : L2.St → XK} (e : env[i]? = some (.v A)) (hA : ∀ S v, A.r S v → SpA c.B S v) (h : Kss c.B env env') (q : nx env') : WB c (tDrop (tCallS (spSpoilN K) Ex (tCons (tVar i) tNil))) env ⟨nx, rt, bk, ct⟩ := fun S σ H d R w => by
  obtain ⟨x, h1, h2⟩ := R.at_ e
  refine Vb.r_drop (Vb.r_callS (Vb.r_cons (Vb.r_var h1 (Vb.r_nil ?_))))
  exact spoil_run R (hA S x h2) h fun S' H' R' => w.nx S' _ _ _ q R'
theorem WB.nq {P : PEnds} {i : Nat} {B : Hp} {Bs : List Asn} (e : env[i]? = some (.v (Nq B K Bs))) (h1 : WB c ts (env.set i (.v (Nl B Bs))) P) (h2 : WB c ts (env.set i (.v (Tu K Bs))) P) : WB c ts env P := fun S σ H d R z => by
  obtain ⟨x, g1, a, xs, rfl, g | g, q⟩ := R.at_ e
  · have := R.setV (x := .ref a) i (A := Nl B Bs) ⟨a, xs, rfl, g.1, g.2, q⟩
    rw [set_self g1] at this
    exact h1 S σ H d this z
  · have := R.setV (x := .ref a) i (A := Tu K Bs) ⟨a, xs, rfl, g, q⟩
    rw [set_self g1] at this
    exact h2 S σ H d this z
theorem WB.frzN {P : PEnds} {i : Nat} {As : List Asn} (e : env[i]? = some (.o (Lc As))) (h : WB c ts (env.set i (.v (Nl c.B As))) P) : WB c ts env P := fun S σ H d R z => by
  obtain ⟨a0, ob, ow, g1, _, _⟩ := R.own e
  have f := R.fr i a0 ow
  obtain ⟨a, S1, h1, h2, h3, h4⟩ := R.frz e (A := L As) lc_L
  rw [g1] at h1
  cases h1
  obtain ⟨a', xs, e1, e2, e3⟩ := h4
  cases e1
  have hb : c.B a0 = none := by
    cases y : c.B a0 with
    | none => rfl
    | some o => have := R.bs a0 o y; rw [f.2] at this; cases this
  have := h3.setV (x := .ref a0) i (A := Nl c.B As) ⟨a0, xs, rfl, e2, hb, e3⟩
  rw [List.set_set, set_self g1] at this
  exact h S1 σ H d this z
theorem wb_if {t : TT} (h : T c t env fun b env1 => if b = true then WB c ts env1 ⟨nx, rt, bk, ct⟩ else WB c tu env1 ⟨nx, rt, bk, ct⟩) : WB c (tIfS t ts tu) env ⟨nx, rt, bk, ct⟩ := fun S σ H d R e => by
  refine h S σ H _ R fun S1 b H1 env1 g1 e1 R1 => ?_
  cases b with
  | true => rw [if_pos rfl] at g1 ⊢; exact g1 S1 σ H1 d R1 e
  | false => rw [if_neg (by decide)] at g1 ⊢; exact g1 S1 σ H1 d R1 e
/-- what is known in the end may be told with less -/
theorem WB.out (i : Nat) (h : WB c ts env ⟨fun e => ∃ A B', e[i]? = some (.v A) ∧ (∀ S v, A.r S v → B'.r S v) ∧ nx (e.set i (.v B')), rt, bk, ct⟩) : WB c ts env ⟨nx, rt, bk, ct⟩ := fun S σ H d R e => h S σ H d R ⟨fun S' env1 σ1 H1 p R1 => by
  obtain ⟨A, B', e1, q, g⟩ := p
  obtain ⟨x, h1, h2⟩ := R1.at_ e1
  have := R1.setV i (q _ _ h2)
  rw [set_self h1] at this
  exact e.nx S' _ σ1 H1 g this, e.rt, e.bk, e.ct⟩
end
end
end K
namespace K
open PySem PySem.Spec PyProof.Rows L2
section
open PySem PySem.Spec L2 Pu
/-- a gate: whether it multiplies, its wires -/
structure Gt where
  m : Bool
  l : Nat
  r : Nat
instance : Inhabited Gt := ⟨⟨false, 0, 0⟩⟩
def kdS (m : Bool) : Str := if m then Str.ofString "mul" else Str.ofString "add"
theorem kd_inj {a b : Bool} : kdS a = kdS b ↔ a = b := by
  cases a <;> cases b <;> unfold kdS <;> decide +kernel
abbrev gtA (K : PySem.W.Frag) (g : Gt) : Asn := Tu K [Sr (kdS g.m), I g.l, I g.r]
/-- a kind of gates -/
def isKd : PyData → Bool
  | .str s => decide (s ∈ [Str.ofString "add", Str.ofString "mul"])
  | _ => false
theorem kd_is (m : Bool) : isKd (.str (kdS m)) = true := by
  cases m <;> unfold isKd kdS <;> decide +kernel
theorem is_kd {d : PyData} (h : isKd d = true) : ∃ m, d = .str (kdS m) := by
  unfold isKd at h
  cases d with
  | str s =>
    have h := of_decide_eq_true h
    rcases List.mem_cons.mp h with rfl | h
    · exact ⟨false, rfl⟩
    · exact ⟨true, by rw [List.mem_singleton.mp h]; rfl⟩
  | _ => cases h
def wds (ls : List (List Gt)) (w : Nat) : List Nat := ls.map List.length ++ [w]
theorem wds_len {ls : List (List Gt)} {w : Nat} : (wds ls w).length = ls.length + 1 := by rw [wds, List.length_append, List.length_map]; rfl
theorem wds_at {ls : List (List Gt)} {w i : Nat} {gs : List Gt} (h : ls[i]? = some gs) : (wds ls w)[i]? = some gs.length := by
  have l := (List.getElem?_eq_some_iff.mp h).1
  rw [wds, List.getElem?_append_left (by rw [List.length_map]; exact l), List.getElem?_map, h]
  rfl
theorem wds_get {ls : List (List Gt)} {w i : Nat} (h : i ≤ ls.length) : ∃ b, (wds ls w)[i]? = some b := ⟨_, List.getElem?_eq_getElem (by rw [wds_len]; omega)⟩
theorem wds_I {ls : List (List Gt)} {w : Nat} : (ls.map fun gs : List Gt => I gs.length) ++ [I w] = (wds ls w).map fun n : Nat => I n := by
  rw [wds, List.map_append, List.map_map]
  rfl
theorem all_true {α : Type} {xs : List α} : (xs.map fun _ => true).all id = true := by
  induction xs with
  | nil => rfl
  | cons x xs ih => rw [List.map_cons, List.all_cons, ih]; rfl
theorem map_bo {α : Type} {xs : List α} : (xs.map fun _ => Bo true) = (xs.map fun _ => true).map Bo := by rw [List.map_map]; rfl
structure LOk (ls : List (List Gt)) (w : Nat) : Prop where
  l4 : ls.length ≤ 4
  wd : ∀ n ∈ wds ls w, n = 1 ∨ n = 2 ∨ n = 4
  gt : ∀ (i : Nat) gs b, ls[i]? = some gs → (wds ls w)[i + 1]? = some b → ∀ g ∈ gs, g.l < b ∧ g.r < b
theorem LOk.at_ {ls : List (List Gt)} {w i b : Nat} (h : LOk ls w) (e : (wds ls w)[i]? = some b) : b = 1 ∨ b = 2 ∨ b = 4 := h.wd b (List.mem_of_getElem? e)
theorem LOk.w_ {ls : List (List Gt)} {w : Nat} (h : LOk ls w) : w = 1 ∨ w = 2 ∨ w = 4 := h.wd w (by unfold wds; simp)
theorem LOk.cons {ls : List (List Gt)} {w bl : Nat} {gs : List Gt} (h : LOk ls w) (l : ls.length < 4) (h0 : (wds ls w)[0]? = some bl) (lg : gs.length = 1 ∨ gs.length = 2 ∨ gs.length = 4) (hg : ∀ g ∈ gs, g.l < bl ∧ g.r < bl) : LOk (gs :: ls) w := by
  have e : wds (gs :: ls) w = gs.length :: wds ls w := rfl
  refine ⟨by rw [List.length_cons]; omega, fun n m => ?_, fun i gs' b e1 e2 g m => ?_⟩
  · rw [e] at m
    rcases List.mem_cons.mp m with rfl | m
    · exact lg
    · exact h.wd n m
  · rw [e] at e2
    cases i with
    | zero =>
      cases Option.some.inj e1
      have e2 : (wds ls w)[0]? = some b := e2
      rw [h0] at e2
      cases e2
      exact hg g m
    | succ i => exact h.gt i gs' b e1 e2 g m
theorem LOk.nil {ls : List (List Gt)} {w : Nat} (h : LOk ls w) : LOk [] w := ⟨by decide, fun n m => by
  rw [show wds [] w = [w] from rfl] at m
  rw [List.mem_singleton.mp m]
  exact h.w_, fun i gs b e => by simp at e⟩
/-- the places of a layer of so many -/
theorem two_pow {b : Nat} (h : b = 1 ∨ b = 2 ∨ b = 4) : b = 2 ^ (b / 2) ∧ b / 2 ≤ 2 := by
  rcases h with rfl | rfl | rfl <;> decide
/-- the circuit with these layers above so many inputs -/
abbrev lysA (K : PySem.W.Frag) (ls : List (List Gt)) : List Asn := ls.map fun gs => L (gs.map (gtA K))
abbrev CircA {K : PySem.W.Frag} {mg : Str → Option Value} (T : Txt K mg) (ls : List (List Gt)) (w : Nat) : Asn := Ob T.C_Circuit [("layers", Tu K (ls.map fun gs => Tu K (gs.map (gtA K)))), ("width", I w), ("widths", Tu K ((wds ls w).map fun n : Nat => I n))]
/-- a first wrong number -/
def BadAt (p : Int) (es : List PyData) (dv : PyData) : Prop := ∃ i : Nat, es[i]? = some dv ∧ inField p dv = false ∧ ∀ (j : Nat) e, j < i → es[j]? = some e → inField p e = true
def PErr (p : Int) (n : Nat) (es : List PyData) (c : Str) (dv : PyData) : Prop := es.length ≠ n ∧ c = Str.ofString "WrongPlaces" ∨ es.length = n ∧ c = Str.ofString "NotInField" ∧ BadAt p es dv
def Good (p : Int) (n : Nat) (es : List PyData) : Prop := es.length = n ∧ ∀ e ∈ es, inField p e = true
/-- why three points are refused -/
def PtsErr (p : Int) (n0 n1 : Nat) (zs xs ys : List PyData) (c : Str) (dv : PyData) : Prop := PErr p n0 zs c dv ∨ Good p n0 zs ∧ (PErr p n1 xs c dv ∨ Good p n1 xs ∧ PErr p n1 ys c dv)
theorem bad_one {p : Int} {es : List PyData} {i : Nat} {d dv : PyData} (h : BadAt p es dv) (h1 : es[i]? = some d) (f1 : inField p d = false) (g1 : ∀ (m : Nat) x, m < i → es[m]? = some x → inField p x = true) : d = dv := by
  obtain ⟨j, h2, f2, g2⟩ := h
  rcases Nat.lt_trichotomy i j with h | h | h
  · rw [g2 i d h h1] at f1
    cases f1
  · subst h
    rw [h1] at h2
    exact Option.some.inj h2
  · rw [g1 j dv h h2] at f2
    cases f2
theorem good_bad {p : Int} {es : List PyData} {dv : PyData} (h : BadAt p es dv) (g : ∀ e ∈ es, inField p e = true) : False := by
  obtain ⟨j, h2, f2, _⟩ := h
  rw [g dv (List.mem_of_getElem? h2)] at f2
  cases f2
/-- a point is looked at -/
def Pt (p : Int) (WP NF : Addr) (X : XP) (n : Nat) (Cs : List Asn) (es : List PyData) (next : Prop) : Prop := (es.length ≠ n → X WP []) ∧ (es.length = n → (∀ (i : Nat) B d, Cs[i]? = some B → es[i]? = some d → inField p d = false → (∀ (j : Nat) e, j < i → es[j]? = some e → inField p e = true) → X NF [("value", B)]) ∧ ((∀ e ∈ es, inField p e = true) → next))
end
end K
namespace K
open PySem PySem.Spec PyProof.Rows L2
abbrev N_is_width : List Str := ["value"]
theorem sc_is_width : FnScope N_is_width ["value"] (defScope s_is_width) := ⟨rfl, rfl, rfl, by decide +kernel, rfl, by decide +kernel, by decide +kernel⟩
section
variable {P : Program} {w : World} {K : PySem.W.Frag} {mg : Str → Option Value} {base : Heap}
open Pu
def φ_iswidth : PSp := fun As k _ => ∃ n : Int, As = [I n] ∧ k (.v (Bo (decide (n ∈ ([1, 2, 4] : List Int)))))
theorem ok_iswidth (T : Txt K mg) : FnOk P w K mg base (L2N.CX P w) 2 T.f_is_width T.fd_is_width ["value"] (toSp (φ_iswidth)) := by
  have G_is_whole := okp_whole (P := P) (w := w) (base := base) T
  skip
  refine okP T.d_is_width.F sc_is_width (by decide) (by intro As k X h; iterate 30 (all_goals first | (obtain ⟨rfl, _⟩ := h; rfl) | (obtain rfl := h; rfl) | (obtain ⟨_, h⟩ := h) | (rcases h with h | h))) fun cdv A0 outer s H E c As kk X hr hX h => ?_
  obtain ⟨n, rfl, q⟩ := h
  have tk := T.tk_WIDTHS
  refine ⟨_, (pss_one (ps_ret (pe_and (pe_callS G_is_whole (hr.mono (by first | decide | omega)) (by rfl) T.d_is_whole.g T.d_is_whole.F.kp T.d_is_whole.b (fun σ => L2N.passAt (L2N.takes_of rfl rfl rfl rfl) σ) (pa_cons (pv 0) pa_nil)) (pe_one (pe_cmpR op_in_seq (pv 0) (pe_glob (v := .ref T.tc_WIDTHS) (by rfl) T.gt_WIDTHS rfl) (by rfl)))))), ?_⟩
  change Pu.W _ _ [.v (I n)] _
  walk_at "pw"
  refine ⟨_, .int n, rfl, (show ToD K (I n) (.int n) from inferInstance).d, ?_⟩
  rw [show whole (.int n) = true from rfl]
  walk_at "pw"
  exact q
end
end K
namespace K
open PySem PySem.Spec PyProof.Rows L2
abbrev N_is_kind : List Str := ["value"]
theorem sc_is_kind : FnScope N_is_kind ["value"] (defScope s_is_kind) := ⟨rfl, rfl, rfl, by decide +kernel, rfl, by decide +kernel, by decide +kernel⟩
section
variable {P : Program} {w : World} {K : PySem.W.Frag} {mg : Str → Option Value} {base : Heap}
open Pu
local macro_rules | `(tactic| walk_at "pR2") => `(tactic| ((with_reducible refine' Pu.r_inSCf ?h0_ ?h1_ ?k_); (case h0_ => exact rfl); (case h1_ => assumption)))
def φ_iskind (K : PySem.W.Frag) : PSp := fun As k _ => ∃ (A : Asn) (d : PyData), As = [A] ∧ (∀ S v, A.r S v → Dp K S v d) ∧ k (.v (Bo (isKd d)))
theorem ok_iskind (T : Txt K mg) : FnOk P w K mg base (L2N.CX P w) 1 T.f_is_kind T.fd_is_kind ["value"] (toSp (φ_iskind K)) := by

  skip
  refine okP T.d_is_kind.F sc_is_kind (by decide) (by intro As k X h; iterate 30 (all_goals first | (obtain ⟨rfl, _⟩ := h; rfl) | (obtain rfl := h; rfl) | (obtain ⟨_, h⟩ := h) | (rcases h with h | h))) fun cdv A0 outer s H E c As kk X hr hX h => ?_
  obtain ⟨A, d, rfl, hA, q⟩ := h
  have tk := T.tk_KINDS
  haveI : ToD K A d := ⟨hA⟩
  by_cases hs : ∃ s, d = .str s
  · obtain ⟨s, rfl⟩ := hs
    refine ⟨_, (pss_one (ps_ret (pe_and (pe_callB call_isi (by rfl) T.n_isinstance (by decide +kernel) (pa_cons (pv 0) (pa_cons (pe_bltn (v := .ty "str") (by rfl) T.n_str (by decide +kernel) rfl) pa_nil))) (pe_one (pe_cmpR op_in_seq (pv 0) (pe_glob (v := .ref T.tc_KINDS) (by rfl) T.gt_KINDS rfl) (by rfl)))))), ?_⟩
    change Pu.W _ _ [.v (A)] _
    refine W.wk (i := 0) (B := Sr s) rfl (fun S v a => by have := hA S v a; cases this; rfl) ?_
    dsimp only [List.set]
    walk_at "pw"
    exact q
  · have hf : isKd d = false := by
      cases d with
      | str s => exact (hs ⟨s, rfl⟩).elim
      | _ => rfl
    rw [hf] at q
    have ht : kitB (Vb.tyN d) "str" = some false := by
      cases d with
      | str s => exact (hs ⟨s, rfl⟩).elim
      | _ => rfl
    refine ⟨_, (pss_one (ps_ret (pe_and (pe_callB call_isi (by rfl) T.n_isinstance (by decide +kernel) (pa_cons (pv 0) (pa_cons (pe_bltn (v := .ty "str") (by rfl) T.n_str (by decide +kernel) rfl) pa_nil))) (pe_one (pe_cmpR op_in_seq (pv 0) (pe_glob (v := .ref T.tc_KINDS) (by rfl) T.gt_KINDS rfl) (by rfl)))))), ?_⟩
    change Pu.W _ _ [.v (A)] _
    walk_at "pw"
    exact q
end
end K
namespace K
open PySem PySem.Spec PyProof.Rows L2
section
open PySem PySem.Spec PyProof.Rows L2 Pu
theorem w_asgA {so : Option Addr} {c : Ct so} {env : Ev} {te : TE} {K : PySem.W.Frag} {n : Nat} {gs : TGs} {nx : Ev → Prop} {rt : Rs → Prop} {bk ct : Ev → Prop} (h : Pu.E c te env fun r env1 => G c (Vb.gAny K n gs) r env1 nx) : W c (tAsg te (Vb.gAny K n gs)) env ⟨nx, rt, bk, ct⟩ := fun S σ H d R e => h S σ H _ R fun S1 x H1 r env1 g1 e1 R1 q1 => g1 S1 σ H1 x _ R1 q1 fun S2 σ2 H2 env2 p e2 R2 => e.nx S2 env2 σ2 H2 p (e1.trans e2) R2
theorem g_any3K {so : Option Addr} {c : Ct so} {K K' : PySem.W.Frag} {env : Ev} {i j l : Nat} {D A B C : Asn} {kg : Ev → Prop} (e0 : K' = K) (hD : SqOf K D [A, B, C]) (h : kg (((env.set i (.v A)).set j (.v B)).set l (.v C))) : G c (Vb.gAny K' 3 (gCons (gName i) (gCons (gName j) (gCons (gName l) gNil)))) (.v D) env kg := fun S σ H x Q R q z => by
  subst e0
  obtain ⟨a, xs, rfl, s, g⟩ := hD S x q
  obtain _ | ⟨x, _ | ⟨y, _ | ⟨w, _ | ⟨w2, xs⟩⟩⟩⟩ := xs
  · exact g.elim
  · exact g.2.elim
  · exact g.2.2.elim
  · have sq : Vb.SqA K' H a [x, y, w] := s.imp (fun s => Vb.sq_of (R.sh _ _ s)) (fun s => Vb.sqd R.sh s)
    exact ⟨a, _, rfl, sq, rfl, x, _, rfl, y, _, rfl, w, _, rfl, rfl, z S _ H _ h (Same.refl S) (((R.setV i g.1).setV j g.2.1).setV l g.2.2.1)⟩
  · exact g.2.2.2.elim
end
end K
namespace K
open PySem PySem.Spec PyProof.Rows L2

abbrev N_is_gate : List Str := ["gate", "below", "kind", "left", "right", "at"]
theorem sc_is_gate : FnScope N_is_gate ["gate", "below"] (defScope s_is_gate) := ⟨rfl, rfl, rfl, by decide +kernel, rfl, by decide +kernel, by decide +kernel⟩
section
variable {P : Program} {w : World} {K : PySem.W.Frag} {mg : Str → Option Value} {base : Heap}
open Pu
local macro_rules | `(tactic| walk_at "pr1") => `(tactic| ((with_reducible refine w_asgA ?_)))
local macro_rules | `(tactic| walk_at "pr1") => `(tactic| ((with_reducible refine' g_any3K ?h0_ ?h1_ ?k_); (case h0_ => walk_at "kK"); (case h1_ => walk_at "psq"); (try dsimp only [List.set])))
def φ_isgate (K : PySem.W.Frag) : PSp := fun As k _ => ∃ (g : Gt) (b : Nat) (A : Asn), As = [A, I b] ∧ SqOf K A [Sr (kdS g.m), I g.l, I g.r] ∧ b ≤ 4 ∧ g.l < b ∧ g.r < b ∧ k (.v (Bo true))
theorem ok_isgate (T : Txt K mg) : FnOk P w K mg base (L2N.CX P w) 2 T.f_is_gate T.fd_is_gate ["gate", "below"] (toSp (φ_isgate K)) := by
  have G_is_kind := ok_iskind (P := P) (w := w) (base := base) T
  have G_is_whole := okp_whole (P := P) (w := w) (base := base) T
  skip
  refine okP T.d_is_gate.F sc_is_gate (by decide) (by intro As k X h; iterate 30 (all_goals first | (obtain ⟨rfl, _⟩ := h; rfl) | (obtain rfl := h; rfl) | (obtain ⟨_, h⟩ := h) | (rcases h with h | h))) fun cdv A0 outer s H E c As kk X hr hX h => ?_
  obtain ⟨g, b, A, rfl, hA, hb, hl, hr2, q⟩ := h
  refine ⟨_, (pss_cons (ps_if (pt_cmpR op_ne (pe_callB Vb.call_len (by rfl) T.n_len (by decide +kernel) (pa_cons (pv 0) pa_nil)) (pe_glob (v := .int 3) (by rfl) T.c_GATE_WORDS ⟨_, rfl⟩) (nomark _)) (pss_one (ps_ret pe_bl)) pss_nil)
      (pss_cons (ps_asg (pv 0) (Vb.pg_any (n := 3) rfl (pgs_cons (pg_name (i := 2) sc_is_gate.nd rfl (by first | exact Or.inl rfl | exact Or.inr rfl)) (pgs_cons (pg_name (i := 3) sc_is_gate.nd rfl (by first | exact Or.inl rfl | exact Or.inr rfl)) (pgs_cons (pg_name (i := 4) sc_is_gate.nd rfl (by first | exact Or.inl rfl | exact Or.inr rfl)) pgs_nil)))))
      (pss_one (ps_ret (pe_and (pe_callS G_is_kind (hr.mono (by first | decide | omega)) (by rfl) T.d_is_kind.g T.d_is_kind.F.kp T.d_is_kind.b (fun σ => L2N.passAt (L2N.takes_of rfl rfl rfl rfl) σ) (pa_cons (pv 2) pa_nil)) (pe_one (pe_callB (Vb.call_all rfl) (by rfl) T.n_all (by decide +kernel) (pa_cons (pe_lc (own := [("at", 5)]) (g := gName 5) (tt := tYes) rfl sc_is_gate.nd (pi_tup (pe_tup (pa_cons (pv 3) (pa_cons (pv 4) pa_nil)))) (blkOk_by (own := [("at", 5)]) (N := N_is_gate) (sc := defScope s_is_gate) (by decide +kernel)) (fun _ _ _ _ _ => (pg_name (i := 5) sc_is_gate.nd rfl (by first | exact Or.inl rfl | exact Or.inr rfl))) (fun _ _ _ _ _ => pts_nil) (fun _ _ _ _ _ => (pe_and (pe_call G_is_whole (hr.mono (by first | decide | omega)) (by rfl) T.d_is_whole.g T.d_is_whole.F.kp T.d_is_whole.b .nil Vb.pass5 (pa_cons (pv 5) pa_nil)) (pe_one (pe_chain op_le op_lt pe_int (pv 5) (pv 1)))))) pa_nil)))))))), ?_⟩
  change Pu.W _ _ [.v (A), .v (I b), .un, .un, .un, .un] _
  walk_at "pw"
  refine ⟨_, _, rfl, (show ToD K (Sr (kdS g.m)) (.str (kdS g.m)) from inferInstance).d, ?_⟩
  rw [kd_is]
  walk_at "pw"
  refine ⟨[I g.l, I g.r], rfl, Pu.no_un rfl, ?_⟩
  refine lcM_map (f := fun n : Nat => I n) (xs := [g.l, g.r]) (g := fun _ => Bo true) (by show 2 ≤ 16777216; decide) (fun c' i x hx => ?_) ?_
  · have hxb : x < b := by
      rcases List.mem_cons.mp (List.mem_of_getElem? hx) with rfl | m
      · exact hl
      · rw [List.mem_singleton.mp m]; exact hr2
    walk_at "pw"
    refine ⟨_, .int x, rfl, (show ToD K (I x) (.int x) from inferInstance).d, ?_⟩
    rw [show whole (.int x) = true from rfl]
    walk_at "pw"
    rw [decide_eq_true (show (0 : Int) ≤ (x : Int) by omega)]
    walk_at "pw"
    rw [decide_eq_true (show (x : Int) < (b : Int) by omega)]
    walk_at "pw"
    exact ⟨rfl, rfl⟩
  rw [map_bo]
  walk_at "pw"
  rw [all_true]
  walk_at "pw"
  exact q
end
end K
namespace K
open PySem PySem.Spec PyProof.Rows L2

abbrev N_Circuit___init__ : List Str := ["self", "layers", "width", "widths", "layer", "below", "one", "gate"]
theorem sc_Circuit___init__ : FnScope N_Circuit___init__ ["self", "layers", "width"] (defScope s_Circuit___init__) := ⟨rfl, rfl, rfl, by decide +kernel, rfl, by decide +kernel, by decide +kernel⟩
section
variable {P : Program} {w : World} {K : PySem.W.Frag} {mg : Str → Option Value} {base : Heap}
open Pu
/-- good layers, lists and tuples mixed -/
def φ_circ {K : PySem.W.Frag} {mg : Str → Option Value} (T : Txt K mg) : PSi := fun As k X => ∃ (ls : List (List Gt)) (w : Nat) (A : Asn) (gA : Gt → Asn) (lA : List Gt → Asn), As = [A, I w] ∧ SqOf K A (ls.map lA) ∧ (∀ gs, SqOf K (lA gs) (gs.map gA)) ∧ (∀ g, SqOf K (gA g) [Sr (kdS g.m), I g.l, I g.r]) ∧ LOk ls w ∧
  k [("layers", Tu K (ls.map fun gs => Tu K (gs.map (gtA K)))), ("width", I w), ("widths", Tu K ((wds ls w).map fun n : Nat => I n))]
theorem ok_circ (T : Txt K mg) : FnOk P w K mg base (L2N.CX P w) 3 T.f_Circuit___init__ T.fd_Circuit___init__ ["self", "layers", "width"] (toSpI T.C_Circuit (φ_circ T)) := by
  have G_check_at_most := okp_atmost (P := P) (w := w) (base := base) T
  have G_is_width := ok_iswidth (P := P) (w := w) (base := base) T
  have G_is_gate := ok_isgate (P := P) (w := w) (base := base) T
  have c_Circuit := T.c_Circuit; have a_Circuit_layers := T.a_Circuit_layers; have a_Circuit_width := T.a_Circuit_width; have a_Circuit_widths := T.a_Circuit_widths
  refine okPI T.d_Circuit___init__.F sc_Circuit___init__ (by decide) (by intro As k X h; iterate 30 (all_goals first | (obtain ⟨rfl, _⟩ := h; rfl) | (obtain rfl := h; rfl) | (obtain ⟨_, h⟩ := h) | (rcases h with h | h))) fun cdv A0 outer s H E dx y c As kk X hr hX h => ?_
  obtain ⟨ls, w, A, gA, lA, rfl, hA, hlA, hgA, hL, q⟩ := h
  have l4 := hL.l4
  refine ⟨_, (pss_cons (ps_expr (pe_callS G_check_at_most (hr.mono (by first | decide | omega)) (by rfl) T.d_check_at_most.g T.d_check_at_most.F.kp T.d_check_at_most.b (fun σ => L2N.passAt (L2N.takes_of rfl rfl rfl rfl) σ) (pa_cons (pv 1) (pa_cons (pe_glob (v := .int 4) (by rfl) T.c_MAX_LAYERS ⟨_, rfl⟩) pa_nil))))
      (pss_cons (ps_set (i := 3) sc_Circuit___init__.nd rfl (by first | exact Or.inl rfl | exact Or.inr rfl) (pe_op op_cat (pe_lc (own := [("layer", 4)]) (g := gName 4) (tt := tYes) rfl sc_Circuit___init__.nd (Vb.pi_seq (pv 1)) (blkOk_by (own := [("layer", 4)]) (N := N_Circuit___init__) (sc := defScope s_Circuit___init__) (by decide +kernel)) (fun _ _ _ _ _ => (pg_name (i := 4) sc_Circuit___init__.nd rfl (by first | exact Or.inl rfl | exact Or.inr rfl))) (fun _ _ _ _ _ => pts_nil) (fun _ _ _ _ _ => (pe_callB (id := "len") (Pu.crK (K := K) (R := Vb.rLenS) Vb.call_len rfl) (by rfl) T.n_len (by decide +kernel) (pa_cons (pv 4) pa_nil)))) (pe_lst (pa_cons (pv 2) pa_nil))))
      (pss_cons (ps_if (pt_not (pt_val (pe_callB (Vb.call_all rfl) (by rfl) T.n_all (by decide +kernel) (pa_cons (pe_lc (own := [("one", 6)]) (g := gName 6) (tt := tYes) rfl sc_Circuit___init__.nd (pi_list (pv 3)) (blkOk_by (own := [("one", 6)]) (N := N_Circuit___init__) (sc := defScope s_Circuit___init__) (by decide +kernel)) (fun _ _ _ _ _ => (pg_name (i := 6) sc_Circuit___init__.nd rfl (by first | exact Or.inl rfl | exact Or.inr rfl))) (fun _ _ _ _ _ => pts_nil) (fun _ _ _ _ _ => (pe_call G_is_width (hr.mono (by first | decide | omega)) (by rfl) T.d_is_width.g T.d_is_width.F.kp T.d_is_width.b .nil Vb.pass5 (pa_cons (pv 6) pa_nil)))) pa_nil)))) (pss_one (Pu.ps_raise rfl (L2N.takes_of rfl rfl rfl rfl) (Pu.pmk0 T.x_NotCircuit rfl))) pss_nil)
      (pss_cons (ps_for (L2.passes_of rfl) rfl (Vb.pi_zipB (by rfl) T.n_zip (pa_cons (pv 1) (pa_cons (pe_slice sl_list (pv 3) (po_some pe_int) po_none) pa_nil))) (pg_tup (n := 2) rfl (pgs_cons (pg_name (i := 4) sc_Circuit___init__.nd rfl (by first | exact Or.inl rfl | exact Or.inr rfl)) (pgs_cons (pg_name (i := 5) sc_Circuit___init__.nd rfl (by first | exact Or.inl rfl | exact Or.inr rfl)) pgs_nil)))
        (pss_one (ps_if (pt_not (pt_val (pe_callB (Vb.call_all rfl) (by rfl) T.n_all (by decide +kernel) (pa_cons (pe_lc (own := [("gate", 7)]) (g := gName 7) (tt := tYes) rfl sc_Circuit___init__.nd (Vb.pi_seq (pv 4)) (blkOk_by (own := [("gate", 7)]) (N := N_Circuit___init__) (sc := defScope s_Circuit___init__) (by decide +kernel)) (fun _ _ _ _ _ => (pg_name (i := 7) sc_Circuit___init__.nd rfl (by first | exact Or.inl rfl | exact Or.inr rfl))) (fun _ _ _ _ _ => pts_nil) (fun _ _ _ _ _ => (pe_call G_is_gate (hr.mono (by first | decide | omega)) (by rfl) T.d_is_gate.g T.d_is_gate.F.kp T.d_is_gate.b .nil Vb.pass5 (pa_cons (pv 7) (pa_cons (pv 5) pa_nil))))) pa_nil)))) (pss_one (Pu.ps_raise rfl (L2N.takes_of rfl rfl rfl rfl) (Pu.pmk0 T.x_NotCircuit rfl))) pss_nil)))
      (pss_cons (ps_fld (pv 0) (pe_callTy Vb.call_tuple (by rfl) T.n_tuple (by decide +kernel) (pa_cons (pe_lc (own := [("layer", 4)]) (g := gName 4) (tt := tYes) rfl sc_Circuit___init__.nd (Vb.pi_seq (pv 1)) (blkOk_by (own := [("layer", 4)]) (N := N_Circuit___init__) (sc := defScope s_Circuit___init__) (by decide +kernel)) (fun _ _ _ _ _ => (pg_name (i := 4) sc_Circuit___init__.nd rfl (by first | exact Or.inl rfl | exact Or.inr rfl))) (fun _ _ _ _ _ => pts_nil) (fun _ _ _ _ _ => (pe_callTy (T := "tuple") (Pu.crK (K := K) (R := Vb.rTup) Vb.call_tuple rfl) (by rfl) T.n_tuple (by decide +kernel) (pa_cons (pe_lc (own := [("gate", 7)]) (g := gName 7) (tt := tYes) rfl sc_Circuit___init__.nd (Pu.pi_seqK (K := K) rfl (pv 4)) (by exact blkOk_by (own := [("gate", 7)]) (by rfl)) (fun _ _ _ _ _ => (pg_name (i := 7) sc_Circuit___init__.nd rfl (by first | exact Or.inl rfl | exact Or.inr rfl))) (fun _ _ _ _ _ => pts_nil) (fun _ _ _ _ _ => (pe_callTy (T := "tuple") (Pu.crK (K := K) (R := Vb.rTup) Vb.call_tuple rfl) (by rfl) T.n_tuple (by decide +kernel) (pa_cons (pv 7) pa_nil)))) pa_nil)))) pa_nil)) rfl)
      (pss_cons (ps_fld (pv 0) (pv 2) rfl)
      (pss_one (ps_fld (pv 0) (pe_callTy Vb.call_tuple (by rfl) T.n_tuple (by decide +kernel) (pa_cons (pv 3) pa_nil)) rfl)))))))), ?_⟩
  change Pu.W _ _ [.o (Pu.Ic T.C_Circuit dx y []), .v (A), .v (I w), .un, .un, .un, .un, .un] _
  walk_at "pw"
  refine ⟨_, _, _, rfl, hA, fun _ => ?_, fun h => by rw [List.length_map] at h; omega⟩
  walk_at "pw"
  refine lcG_map (xs := ls) (f := lA) (h := fun gs : List Gt => I gs.length) (by omega) (fun c' i gs hgs => ?_) ?_
  · have sg := hlA gs
    walk_at "pw"
    exact ⟨by rw [List.length_map], rfl⟩
  have lw := wds_len (ls := ls) (w := w)
  walk_at "pw"
  rw [wds_I]
  refine lcM_map (g := fun _ => Bo true) (by omega) (fun c' i n hn => ?_) ?_
  · have hn3 := hL.at_ hn
    walk_at "pw"
    refine ⟨_, rfl, ?_⟩
    have e : decide ((n : Int) ∈ ([1, 2, 4] : List Int)) = true := by
      rcases hn3 with rfl | rfl | rfl <;> decide
    rw [e]
    walk_at "pw"
    exact ⟨rfl, rfl⟩
  rw [map_bo]
  walk_at "pw"
  rw [all_true]
  walk_at "pw"
  rw [show cutA ((wds ls w).map fun n : Nat => I n) (some 1) none = ((wds ls w).drop 1).map fun n : Nat => I n by rw [cutA_map, show (some 1 : Option Int) = some ((1 : Nat) : Int) from rfl, cutA_drop]]
  refine lpL (fun i env => ∃ (s4 s5 s7 : Sl), env = [.o (Ic T.C_Circuit dx y []), .v A, .v (I w), .v (L ((wds ls w).map fun n : Nat => I n)), s4, s5, .un, s7] ∧ Fre s4 ∧ Fre s5 ∧ Fre s7) ⟨_, _, _, rfl, .un, .un, .un⟩ ?_ ?_
  · rintro i B env hB ⟨s4, s5, s7, rfl, f4, f5, f7⟩
    unfold zipA at hB
    obtain ⟨x1, x2, h1, h3, rfl⟩ := zipGet hB
    clear hB
    rw [List.getElem?_map] at h1 h3
    obtain ⟨gs, hgs, rfl⟩ := Option.map_eq_some_iff.mp h1
    obtain ⟨b, hb, rfl⟩ := Option.map_eq_some_iff.mp h3
    rw [List.getElem?_drop, Nat.add_comm] at hb
    have gG := hL.gt i gs b hgs hb
    have b4 := hL.at_ hb
    have lg := hL.at_ (wds_at hgs)
    have sg := hlA gs
    walk_at "pw"
    refine lcG_map (xs := gs) (f := gA) (h := fun _ => Bo true) (by omega) (fun c' j g hg => ?_) ?_
    · have gb := gG g (List.mem_of_getElem? hg)
      walk_at "pw"
      refine ⟨g, b, _, rfl, hgA g, by omega, gb.1, gb.2, ?_⟩
      walk_at "pw"
      exact ⟨rfl, rfl⟩
    rw [map_bo]
    walk_at "pw"
    rw [all_true]
    walk_at "pw"
    exact ⟨_, _, _, rfl, .v, .v, f7⟩
  · rintro env ⟨s4, s5, s7, rfl, f4, f5, f7⟩
    walk_at "pw"
    refine lcG_map (xs := ls) (f := lA) (h := fun gs : List Gt => Tu K (gs.map (gtA K))) (by omega) (fun c' i gs hgs => ?_) ?_
    · have lg := hL.at_ (wds_at hgs)
      have sg := hlA gs
      walk_at "pw"
      refine lcG_map (xs := gs) (f := gA) (h := fun g => gtA K g) (by omega) (fun c2 j g hg => ?_) ?_
      · have sg2 := hgA g
        walk_at "pw"
        exact ⟨rfl, rfl⟩
      walk_at "pw"
      exact ⟨rfl, rfl⟩
    walk_at "pw"
    exact init_end rfl q
end
end K
namespace K
open PySem PySem.Spec PyProof.Rows L2
abbrev N_Circuit_depth : List Str := ["self"]
theorem sc_Circuit_depth : FnScope N_Circuit_depth ["self"] (defScope s_Circuit_depth) := ⟨rfl, rfl, rfl, by decide +kernel, rfl, by decide +kernel, by decide +kernel⟩
section
variable {P : Program} {w : World} {K : PySem.W.Frag} {mg : Str → Option Value} {base : Heap}
open Pu
def φ_depth {K : PySem.W.Frag} {mg : Str → Option Value} (T : Txt K mg) : PSp := fun As k _ => ∃ (ls : List (List Gt)) (w : Nat), As = [CircA T ls w] ∧ k (.v (I ls.length))
theorem ok_depth (T : Txt K mg) : FnOk P w K mg base (L2N.CX P w) 1 T.f_Circuit_depth T.fd_Circuit_depth ["self"] (toSp (φ_depth T)) := by

  have c_Circuit := T.c_Circuit; have a_Circuit_layers := T.a_Circuit_layers
  refine okP T.d_Circuit_depth.F sc_Circuit_depth (by decide) (by intro As k X h; iterate 30 (all_goals first | (obtain ⟨rfl, _⟩ := h; rfl) | (obtain rfl := h; rfl) | (obtain ⟨_, h⟩ := h) | (rcases h with h | h))) fun cdv A0 outer s H E c As kk X hr hX h => ?_
  obtain ⟨ls, w, rfl, q⟩ := h
  refine ⟨_, (pss_one (ps_ret (pe_callB Vb.call_len (by rfl) T.n_len (by decide +kernel) (pa_cons (pe_fld (pv 0) (by rfl)) pa_nil)))), ?_⟩
  change Pu.W _ _ [.v (CircA T ls w)] _
  walk_at "pw"
  rw [List.length_map]
  exact q
end
end K
namespace K
open PySem PySem.Spec PyProof.Rows L2
abbrev N_Circuit_bits : List Str := ["self", "layer"]
theorem sc_Circuit_bits : FnScope N_Circuit_bits ["self", "layer"] (defScope s_Circuit_bits) := ⟨rfl, rfl, rfl, by decide +kernel, rfl, by decide +kernel, by decide +kernel⟩
section
variable {P : Program} {w : World} {K : PySem.W.Frag} {mg : Str → Option Value} {base : Heap}
open Pu
def φ_bits {K : PySem.W.Frag} {mg : Str → Option Value} (T : Txt K mg) : PSp := fun As k X => ∃ (ls : List (List Gt)) (w : Nat) (A : Asn) (d : PyData), As = [CircA T ls w, A] ∧ LOk ls w ∧ (∀ S v, A.r S v → Dp K S v d) ∧ (inRange 0 (ls.length : Int) d = false → X T.C_OutOfRange []) ∧ ∀ j b : Nat, d = .int j → (wds ls w)[j]? = some b → k (.v (I (b / 2 : Nat)))
theorem ok_bits (T : Txt K mg) : FnOk P w K mg base (L2N.CX P w) 3 T.f_Circuit_bits T.fd_Circuit_bits ["self", "layer"] (toSp (φ_bits T)) := by
  have G_check_range := okp_checkrange (P := P) (w := w) (base := base) T
  have G_Circuit_depth := ok_depth (P := P) (w := w) (base := base) T
  have c_Circuit := T.c_Circuit; have a_Circuit_widths := T.a_Circuit_widths
  refine okP T.d_Circuit_bits.F sc_Circuit_bits (by decide) (by intro As k X h; iterate 30 (all_goals first | (obtain ⟨rfl, _⟩ := h; rfl) | (obtain rfl := h; rfl) | (obtain ⟨_, h⟩ := h) | (rcases h with h | h))) fun cdv A0 outer s H E c As kk X hr hX h => ?_
  obtain ⟨ls, w, A, d, rfl, hL, hA, q1, q2⟩ := h
  have tk := T.tk_TABLE_LENGTHS
  have l4 := hL.l4
  refine ⟨_, (pss_cons (ps_expr (pe_callS G_check_range (hr.mono (by first | decide | omega)) (by rfl) T.d_check_range.g T.d_check_range.F.kp T.d_check_range.b (fun σ => L2N.passAt (L2N.takes_of rfl rfl rfl rfl) σ) (pa_cons (pv 1) (pa_cons pe_int (pa_cons (pe_prop (pv 0) T.c_Circuit T.pr_Circuit_depth G_Circuit_depth (hr.mono (by first | decide | omega)) T.d_Circuit_depth.b .nil Vb.pass5 (by rfl)) pa_nil)))))
      (pss_one (ps_ret (pe_bm PySem.F.plainAttrs_tuple PySem.F.slot_tuple_index PySem.F.type_tuple_index Vb.mt_idxI (pe_glob (v := .ref T.tc_TABLE_LENGTHS) (by rfl) T.gt_TABLE_LENGTHS rfl) (pa_cons (pe_ix ix_tup (pe_fld (pv 0) (by rfl)) (pv 1) (fun _ _ => rfl)) pa_nil))))), ?_⟩
  change Pu.W _ _ [.v (CircA T ls w), .v (A)] _
  walk_at "pw"
  refine ⟨ls, w, rfl, ?_⟩
  walk_at "pw"
  refine ⟨_, _, _, d, rfl, hA, fun f => ?_, q1⟩
  obtain ⟨j9, rfl, j0, j1⟩ := inRange_of f
  obtain ⟨j, rfl⟩ := Int.eq_ofNat_of_zero_le j0
  obtain ⟨b, hj⟩ := wds_get (ls := ls) (w := w) (i := j) (by omega)
  have q := q2 j b rfl hj
  refine W.wk (i := 1) (B := I j) rfl (imp_int hA) ?_
  dsimp only [List.set]
  have aW : atI (wds ls w) (j : Int) = some b := at_ j rfl hj
  obtain ⟨i1, i2⟩ := two_pow (hL.at_ hj)
  obtain ⟨i3, i4⟩ := pow_at (b / 2) (by omega)
  rw [← i1] at i3 i4
  walk_at "pw"
  refine e_idxC rfl tk ?_
  walk_at "pw"
  refine ⟨rfl, ?_⟩
  walk_at "pw"
  refine ⟨_, b / 2, rfl, i3, i4, ?_⟩
  walk_at "pw"
  exact q
end
end K
namespace K
open PySem PySem.Spec PyProof.Rows L2

abbrev N__law_gates : List Str := ["store", "many", "below", "alike", "kind", "gates", "k", "left", "right"]
theorem sc__law_gates : FnScope N__law_gates ["store", "many", "below"] (defScope s__law_gates) := ⟨rfl, rfl, rfl, by decide +kernel, rfl, by decide +kernel, by decide +kernel⟩
section
variable {P : Program} {w : World} {K : PySem.W.Frag} {mg : Str → Option Value} {base : Heap}
open Pu
theorem kd_at {v : Int} (v0 : 0 ≤ v) (v1 : v < 2) : atI [Sr (Str.ofString "add"), Sr (Str.ofString "mul")] v = some (Sr (kdS (decide (v = 1)))) := by
  obtain rfl | rfl : v = 0 ∨ v = 1 := by omega
  · rfl
  · rfl
def φ_gates (K : PySem.W.Frag) : PSp := fun As k _ => ∃ (n b : Nat), As = [I n, I b] ∧ n ≤ 4 ∧ 1 ≤ b ∧ b ≤ 4 ∧ ∀ gs : List Gt, gs.length = n → (∀ g ∈ gs, g.l < b ∧ g.r < b) → k (.o (Lc (gs.map (gtA K))))
theorem ok_gates (T : Txt K mg) : FnOk P w K mg base (L2N.CX P w) 4 T.f__law_gates T.fd__law_gates ["store", "many", "below"] (toSpS (φ_gates K)) := by
  have G__law_chance := okp_chance (P := P) (w := w) (base := base) T
  have G__law_take := okp_take (P := P) (w := w) (base := base) T
  skip
  refine okPS T.d__law_gates.F sc__law_gates (by decide) (by intro As k X h; iterate 30 (all_goals first | (obtain ⟨rfl, _⟩ := h; rfl) | (obtain rfl := h; rfl) | (obtain ⟨_, h⟩ := h) | (rcases h with h | h))) fun cdv A0 outer s H E st c As kk X hr hX h => ?_
  obtain ⟨n, b, rfl, hn, hb, hb4, q⟩ := h
  have fz_3 : Frz 3 := ⟨⟩
  have fz_4 : Frz 4 := ⟨⟩
  have fz_7 : Frz 7 := ⟨⟩
  have fz_8 : Frz 8 := ⟨⟩
  refine ⟨_, (pss_cons (ps_set (i := 3) sc__law_gates.nd rfl (by first | exact Or.inl rfl | exact Or.inr rfl) (pe_callS G__law_chance (hr.mono (by first | decide | omega)) (by rfl) T.d__law_chance.g T.d__law_chance.F.kp T.d__law_chance.b (fun σ => L2N.passAt (L2N.takes_of rfl rfl rfl rfl) σ) (pa_cons (pv 0) (pa_cons pe_int pa_nil))))
      (pss_cons (ps_set (i := 4) sc__law_gates.nd rfl (by first | exact Or.inl rfl | exact Or.inr rfl) (pe_ix ix_list (pe_lst (pa_cons pe_str (pa_cons pe_str pa_nil))) (pe_callS G__law_take (hr.mono (by first | decide | omega)) (by rfl) T.d__law_take.g T.d__law_take.F.kp T.d__law_take.b (fun σ => L2N.passAt (L2N.takes_of rfl rfl rfl rfl) σ) (pa_cons (pv 0) (pa_cons pe_int pa_nil))) (fun _ _ => rfl)))
      (pss_cons (ps_set (i := 5) sc__law_gates.nd rfl (by first | exact Or.inl rfl | exact Or.inr rfl) (pe_lst pa_nil))
      (pss_cons (ps_for (L2.passes_of rfl) rfl (pi_range1 rfl T.n_range (pa_cons (pv 1) pa_nil)) (pg_name (i := 6) sc__law_gates.nd rfl (by first | exact Or.inl rfl | exact Or.inr rfl))
        (pss_cons (ps_if (pt_not (pt_val (pv 3))) (pss_one (ps_set (i := 4) sc__law_gates.nd rfl (by first | exact Or.inl rfl | exact Or.inr rfl) (pe_ix ix_list (pe_lst (pa_cons pe_str (pa_cons pe_str pa_nil))) (pe_callS G__law_take (hr.mono (by first | decide | omega)) (by rfl) T.d__law_take.g T.d__law_take.F.kp T.d__law_take.b (fun σ => L2N.passAt (L2N.takes_of rfl rfl rfl rfl) σ) (pa_cons (pv 0) (pa_cons pe_int pa_nil))) (fun _ _ => rfl)))) pss_nil)
      (pss_cons (ps_set (i := 7) sc__law_gates.nd rfl (by first | exact Or.inl rfl | exact Or.inr rfl) (pe_callS G__law_take (hr.mono (by first | decide | omega)) (by rfl) T.d__law_take.g T.d__law_take.F.kp T.d__law_take.b (fun σ => L2N.passAt (L2N.takes_of rfl rfl rfl rfl) σ) (pa_cons (pv 0) (pa_cons (pv 2) pa_nil))))
      (pss_cons (ps_set (i := 8) sc__law_gates.nd rfl (by first | exact Or.inl rfl | exact Or.inr rfl) (pe_callS G__law_take (hr.mono (by first | decide | omega)) (by rfl) T.d__law_take.g T.d__law_take.F.kp T.d__law_take.b (fun σ => L2N.passAt (L2N.takes_of rfl rfl rfl rfl) σ) (pa_cons (pv 0) (pa_cons (pv 2) pa_nil))))
      (pss_cons (ps_if (pt_val (pe_callS G__law_chance (hr.mono (by first | decide | omega)) (by rfl) T.d__law_chance.g T.d__law_chance.F.kp T.d__law_chance.b (fun σ => L2N.passAt (L2N.takes_of rfl rfl rfl rfl) σ) (pa_cons (pv 0) (pa_cons pe_int pa_nil)))) (pss_one (ps_set (i := 8) sc__law_gates.nd rfl (by first | exact Or.inl rfl | exact Or.inr rfl) (pv 7))) pss_nil)
      (pss_one (ps_expr (pe_bm PySem.F.plainAttrs_list PySem.F.slot_list_append PySem.F.type_list_append mt_append (pv 5) (pa_cons (pe_tup (pa_cons (pv 4) (pa_cons (pv 7) (pa_cons (pv 8) pa_nil)))) pa_nil)))))))))
      (pss_one (ps_ret (pv 5))))))), ?_⟩
  change Pu.W _ _ [.v (Pu.Rf st), .v (I n), .v (I b), .un, .un, .un, .un, .un, .un] _
  walk_at "pw"
  refine ⟨4, rfl, by decide, fun al => ?_⟩
  walk_at "pw"
  refine ⟨2, rfl, by decide, fun v v0 v1 _ => ?_⟩
  have v1 := v1 (by decide)
  have aK := kd_at v0 v1
  walk_at "pw"
  refine lpN (fun i env => ∃ (m : Bool) (gs : List Gt) (s6 s7 s8 : Sl), env = [.v (Rf st), .v (I n), .v (I b), .v (Bo al), .v (Sr (kdS m)), .o (Lc (gs.map (gtA K))), s6, s7, s8] ∧ gs.length = i ∧ ∀ g ∈ gs, g.l < b ∧ g.r < b) ⟨_, [], _, _, _, rfl, rfl, fun g m => by cases m⟩ ?_ ?_
  · rintro i env hi ⟨m, gs, s6, s7, s8, rfl, lg, hg⟩
    have hi : i < n := by omega
    walk_at "pw"
    refine Vb.r_iteNb (fun ea => ?_) (fun ea => ?_)
    · subst ea
      walk_at "pw"
      refine ⟨2, rfl, by decide, fun u u0 u1 _ => ?_⟩
      have u1 := u1 (by decide)
      have aU := kd_at u0 u1
      generalize decide (u = 1) = m2 at aU
      walk_at "pw"
      refine ⟨b, rfl, by omega, fun l l0 l1 l2 => ?_⟩
      have l1 : l < b := by
        by_cases h : (1 : Int) < b
        · exact l1 h
        · have := l2 (by omega)
          omega
      obtain ⟨l, rfl⟩ := Int.eq_ofNat_of_zero_le l0
      walk_at "pw"
      refine ⟨b, rfl, by omega, fun r r0 r1 r2 => ?_⟩
      have r1 : r < b := by
        by_cases h : (1 : Int) < b
        · exact r1 h
        · have := r2 (by omega)
          omega
      obtain ⟨r, rfl⟩ := Int.eq_ofNat_of_zero_le r0
      walk_at "pw"
      refine ⟨4, rfl, by decide, fun b4 => ?_⟩
      walk_at "pw"
      refine Vb.r_iteb (fun e4 => ?_) (fun e4 => ?_)
      · walk_at "pw"
        refine ⟨m2, gs ++ [⟨m2, l, l⟩], _, _, _, by rw [List.map_append]; rfl, by rw [List.length_append]; show _ + 1 = _; omega, fun g mg => ?_⟩
        rcases List.mem_append.mp mg with mg | mg
        · exact hg g mg
        · rw [List.mem_singleton.mp mg]
          exact ⟨by show l < b; omega, by show l < b; omega⟩
      · walk_at "pw"
        refine ⟨m2, gs ++ [⟨m2, l, r⟩], _, _, _, by rw [List.map_append]; rfl, by rw [List.length_append]; show _ + 1 = _; omega, fun g mg => ?_⟩
        rcases List.mem_append.mp mg with mg | mg
        · exact hg g mg
        · rw [List.mem_singleton.mp mg]
          exact ⟨by show l < b; omega, by show r < b; omega⟩
    · subst ea
      generalize m = m2
      walk_at "pw"
      refine ⟨b, rfl, by omega, fun l l0 l1 l2 => ?_⟩
      have l1 : l < b := by
        by_cases h : (1 : Int) < b
        · exact l1 h
        · have := l2 (by omega)
          omega
      obtain ⟨l, rfl⟩ := Int.eq_ofNat_of_zero_le l0
      walk_at "pw"
      refine ⟨b, rfl, by omega, fun r r0 r1 r2 => ?_⟩
      have r1 : r < b := by
        by_cases h : (1 : Int) < b
        · exact r1 h
        · have := r2 (by omega)
          omega
      obtain ⟨r, rfl⟩ := Int.eq_ofNat_of_zero_le r0
      walk_at "pw"
      refine ⟨4, rfl, by decide, fun b4 => ?_⟩
      walk_at "pw"
      refine Vb.r_iteb (fun e4 => ?_) (fun e4 => ?_)
      · walk_at "pw"
        refine ⟨m2, gs ++ [⟨m2, l, l⟩], _, _, _, by rw [List.map_append]; rfl, by rw [List.length_append]; show _ + 1 = _; omega, fun g mg => ?_⟩
        rcases List.mem_append.mp mg with mg | mg
        · exact hg g mg
        · rw [List.mem_singleton.mp mg]
          exact ⟨by show l < b; omega, by show l < b; omega⟩
      · walk_at "pw"
        refine ⟨m2, gs ++ [⟨m2, l, r⟩], _, _, _, by rw [List.map_append]; rfl, by rw [List.length_append]; show _ + 1 = _; omega, fun g mg => ?_⟩
        rcases List.mem_append.mp mg with mg | mg
        · exact hg g mg
        · rw [List.mem_singleton.mp mg]
          exact ⟨by show l < b; omega, by show r < b; omega⟩
  · rintro env ⟨m, gs, s6, s7, s8, rfl, lg, hg⟩
    walk_at "pw"
    exact q gs (by omega) hg
end
end K
namespace K
open PySem PySem.Spec PyProof.Rows L2

abbrev N__law_circuit : List Str := ["store", "depth", "widest", "sizes", "width", "below", "layers", "k", "size"]
theorem sc__law_circuit : FnScope N__law_circuit ["store", "depth", "widest"] (defScope s__law_circuit) := ⟨rfl, rfl, rfl, by decide +kernel, rfl, by decide +kernel, by decide +kernel⟩
section
variable {P : Program} {w : World} {K : PySem.W.Frag} {mg : Str → Option Value} {base : Heap}
open Pu
def φ_circuit (K : PySem.W.Frag) : PSp := fun As k _ => ∃ (n b : Nat), As = [I n, I b] ∧ n ≤ 4 ∧ (b = 1 ∨ b = 2 ∨ b = 4) ∧ ∀ (ls : List (List Gt)) (w : Nat), ls.length = n → LOk ls w → k (.v (Tu K [L (lysA K ls), I w]))
theorem ok_circuit (T : Txt K mg) : FnOk P w K mg base (L2N.CX P w) 5 T.f__law_circuit T.fd__law_circuit ["store", "depth", "widest"] (toSpS (φ_circuit K)) := by
  have G__law_pick := okp_pick (P := P) (w := w) (base := base) T
  have G__law_gates := ok_gates (P := P) (w := w) (base := base) T
  skip
  refine okPS T.d__law_circuit.F sc__law_circuit (by decide) (by intro As k X h; iterate 30 (all_goals first | (obtain ⟨rfl, _⟩ := h; rfl) | (obtain rfl := h; rfl) | (obtain ⟨_, h⟩ := h) | (rcases h with h | h))) fun cdv A0 outer s H E st c As kk X hr hX h => ?_
  obtain ⟨n, b, rfl, hn, hb, q⟩ := h
  have fz_3 : Frz 3 := ⟨⟩
  have fz_4 : Frz 4 := ⟨⟩
  have fz_5 : Frz 5 := ⟨⟩
  have fz_6 : Frz 6 := ⟨⟩
  have fz_8 : Frz 8 := ⟨⟩
  refine ⟨_, (pss_cons (ps_setLc (i := 3) (own := [("size", 8)]) (g := gName 8) rfl sc__law_circuit.nd rfl rfl (sw_true rfl rfl rfl (by decide +kernel)) (pi_list (pe_lst (pa_cons pe_int (pa_cons pe_int (pa_cons pe_int pa_nil))))) (blkOk_by (own := [("size", 8)]) (N := N__law_circuit) (sc := defScope s__law_circuit) (by decide +kernel)) (fun _ _ _ _ _ => (pg_name (i := 8) sc__law_circuit.nd rfl (by first | exact Or.inl rfl | exact Or.inr rfl))) (fun _ _ _ _ _ => pts_one (pt_cmpR op_le (pv 8) (pv 2) (nomark _))) (fun _ _ _ _ _ => (pv 8)))
      (pss_cons (ps_set (i := 4) sc__law_circuit.nd rfl (by first | exact Or.inl rfl | exact Or.inr rfl) (pe_callS G__law_pick (hr.mono (by first | decide | omega)) (by rfl) T.d__law_pick.g T.d__law_pick.F.kp T.d__law_pick.b (fun σ => L2N.passAt (L2N.takes_of rfl rfl rfl rfl) σ) (pa_cons (pv 0) (pa_cons (pv 3) pa_nil))))
      (pss_cons (ps_set (i := 5) sc__law_circuit.nd rfl (by first | exact Or.inl rfl | exact Or.inr rfl) (pv 4))
      (pss_cons (ps_set (i := 6) sc__law_circuit.nd rfl (by first | exact Or.inl rfl | exact Or.inr rfl) (pe_lst pa_nil))
      (pss_cons (ps_for (L2.passes_of rfl) rfl (pi_range1 rfl T.n_range (pa_cons (pv 1) pa_nil)) (pg_name (i := 7) sc__law_circuit.nd rfl (by first | exact Or.inl rfl | exact Or.inr rfl))
        (pss_cons (ps_set (i := 8) sc__law_circuit.nd rfl (by first | exact Or.inl rfl | exact Or.inr rfl) (pe_callS G__law_pick (hr.mono (by first | decide | omega)) (by rfl) T.d__law_pick.g T.d__law_pick.F.kp T.d__law_pick.b (fun σ => L2N.passAt (L2N.takes_of rfl rfl rfl rfl) σ) (pa_cons (pv 0) (pa_cons (pv 3) pa_nil))))
      (pss_cons (ps_set (i := 6) sc__law_circuit.nd rfl (by first | exact Or.inl rfl | exact Or.inr rfl) (pe_op op_cat (pe_lst (pa_cons (pe_callS G__law_gates (hr.mono (by first | decide | omega)) (by rfl) T.d__law_gates.g T.d__law_gates.F.kp T.d__law_gates.b (fun σ => L2N.passAt (L2N.takes_of rfl rfl rfl rfl) σ) (pa_cons (pv 0) (pa_cons (pv 8) (pa_cons (pv 5) pa_nil)))) pa_nil)) (pv 6)))
      (pss_one (ps_set (i := 5) sc__law_circuit.nd rfl (by first | exact Or.inl rfl | exact Or.inr rfl) (pv 8))))))
      (pss_one (ps_ret (pe_tup (pa_cons (pv 6) (pa_cons (pv 4) pa_nil)))))))))), ?_⟩
  change Pu.W _ _ [.v (Pu.Rf st), .v (I n), .v (I b), .un, .un, .un, .un, .un, .un] _
  walk_at "pw"
  refine lcM_filter (f := fun s : Nat => I s) (h := fun s : Nat => I s) (p := fun s => decide (s ≤ b)) (xs := [1, 2, 4]) (by show 3 ≤ 16777216; decide) (fun c' i x hx => ?_) ?_
  · walk_at "pw"
    refine ⟨_, rfl, ?_, rfl, fun hp => ?_⟩
    · exact decide_eq_decide.mpr ⟨fun h => by omega, fun h => by omega⟩
    walk_at "pw"
    exact ⟨rfl, rfl⟩
  obtain ⟨zs, ez⟩ : ∃ zs, zs = [1, 2, 4].filter fun s => decide (s ≤ b) := ⟨_, rfl⟩
  rw [← ez]
  have z0 : zs ≠ [] := by
    rcases hb with rfl | rfl | rfl <;> rw [ez] <;> decide
  have zl : zs.length ≤ 3 := by rw [ez]; exact List.length_filter_le _ _
  have z3 : ∀ s ∈ zs, s = 1 ∨ s = 2 ∨ s = 4 := fun s m => by
    rw [ez] at m
    have := (List.mem_filter.mp m).1
    simpa using this
  clear ez
  walk_at "pw"
  refine ⟨_, zs.map fun s : Nat => I s, rfl, .lst, fun e => z0 (List.map_eq_nil_iff.mp e), by rw [List.length_map]; omega, fun i B hB => ?_⟩
  obtain ⟨w, hw, rfl⟩ := List.mem_map.mp (List.mem_of_getElem? hB)
  have hw3 := z3 w hw
  walk_at "pw"
  refine lpN (fun i env => ∃ (ls : List (List Gt)) (bl : Nat) (s7 s8 : Sl), env = [.v (Rf st), .v (I n), .v (I b), .v (L (zs.map fun s : Nat => I s)), .v (I w), .v (I bl), .v (L (lysA K ls)), s7, s8] ∧ ls.length = i ∧ LOk ls w ∧ (wds ls w)[0]? = some bl) ⟨[], w, _, _, rfl, rfl, ⟨by decide, fun n m => by rw [List.mem_singleton.mp m]; exact hw3, fun i gs b e => by simp at e⟩, rfl⟩ ?_ ?_
  · rintro i env hi ⟨ls, bl, s7, s8, rfl, ll, hL, h0⟩
    have hi : i < n := by omega
    have bl3 := hL.at_ h0
    walk_at "pw"
    refine ⟨_, zs.map fun s : Nat => I s, rfl, .lst, fun e => z0 (List.map_eq_nil_iff.mp e), by rw [List.length_map]; omega, fun i B hB => ?_⟩
    obtain ⟨sz, hsz, rfl⟩ := List.mem_map.mp (List.mem_of_getElem? hB)
    have sz3 := z3 sz hsz
    walk_at "pw"
    refine ⟨sz, bl, rfl, by omega, by omega, by omega, fun gs lg hg => ?_⟩
    walk_at "pw"
    refine ⟨gs :: ls, sz, _, _, rfl, by rw [List.length_cons]; omega, hL.cons (by omega) h0 (by omega) hg, ?_⟩
    show some gs.length = some sz
    rw [lg]
  · rintro env ⟨ls, bl, s7, s8, rfl, ll, hL, h0⟩
    walk_at "pw"
    exact q ls w (by omega) hL
end
end K
namespace K
open PySem PySem.Spec PyProof.Rows L2

abbrev N__law_widths : List Str := ["layers", "width", "gates"]
theorem sc__law_widths : FnScope N__law_widths ["layers", "width"] (defScope s__law_widths) := ⟨rfl, rfl, rfl, by decide +kernel, rfl, by decide +kernel, by decide +kernel⟩
section
variable {P : Program} {w : World} {K : PySem.W.Frag} {mg : Str → Option Value} {base : Heap}
open Pu
def φ_widths (K : PySem.W.Frag) : PSp := fun As k _ => ∃ (ls : List (List Gt)) (w : Nat), As = [L (lysA K ls), I w] ∧ ls.length ≤ 4 ∧ k (.o (Lc ((wds ls w).map fun n : Nat => I n)))
theorem ok_widths (T : Txt K mg) : FnOk P w K mg base (L2N.CX P w) 1 T.f__law_widths T.fd__law_widths ["layers", "width"] (toSp (φ_widths K)) := by

  skip
  refine okP T.d__law_widths.F sc__law_widths (by decide) (by intro As k X h; iterate 30 (all_goals first | (obtain ⟨rfl, _⟩ := h; rfl) | (obtain rfl := h; rfl) | (obtain ⟨_, h⟩ := h) | (rcases h with h | h))) fun cdv A0 outer s H E c As kk X hr hX h => ?_
  obtain ⟨ls, w, rfl, hl, q⟩ := h
  refine ⟨_, (pss_one (ps_ret (pe_op op_cat (pe_lc (own := [("gates", 2)]) (g := gName 2) (tt := tYes) rfl sc__law_widths.nd (pi_list (pv 0)) (blkOk_by (own := [("gates", 2)]) (N := N__law_widths) (sc := defScope s__law_widths) (by decide +kernel)) (fun _ _ _ _ _ => (pg_name (i := 2) sc__law_widths.nd rfl (by first | exact Or.inl rfl | exact Or.inr rfl))) (fun _ _ _ _ _ => pts_nil) (fun _ _ _ _ _ => (pe_callB (id := "len") (Pu.crK (K := K) (R := Vb.rLenS) Vb.call_len rfl) (by rfl) T.n_len (by decide +kernel) (pa_cons (pv 2) pa_nil)))) (pe_lst (pa_cons (pv 1) pa_nil))))), ?_⟩
  change Pu.W _ _ [.v (L (lysA K ls)), .v (I w), .un] _
  walk_at "pw"
  refine lcM_map (g := fun gs : List Gt => I gs.length) (by omega) (fun c' i gs hgs => ?_) ?_
  · walk_at "pw"
    exact ⟨by rw [List.length_map], rfl⟩
  walk_at "pw"
  rw [wds_I]
  exact q
end
end K
namespace K
open PySem PySem.Spec PyProof.Rows L2
abbrev N__law_class_names : List Str := ["error", "names"]
theorem sc__law_class_names : FnScope N__law_class_names ["error"] (defScope s__law_class_names) := ⟨rfl, rfl, rfl, by decide +kernel, rfl, by decide +kernel, by decide +kernel⟩
section
variable {P : Program} {w : World} {K : PySem.W.Frag} {mg : Str → Option Value} {base : Heap}
open Pu
/-- the names that are told of a class -/
def NameOf {K : PySem.W.Frag} {mg : Str → Option Value} (T : Txt K mg) (D : Addr) (ns : List Str) : Prop := (D = T.C_NotInField ∧ ns = [Str.ofString "NotInField"]) ∨ (D = T.C_OutOfRange ∧ ns = [Str.ofString "OutOfRange"]) ∨ (D = T.C_TooLarge ∧ ns = [Str.ofString "another"]) ∨ (D = T.C_WrongPlaces ∧ ns = [Str.ofString "WrongPlaces"]) ∨ (D = T.C_NotPrime ∧ ns = [Str.ofString "NotPrime"]) ∨ (D = T.C_NotCircuit ∧ ns = [Str.ofString "another"])
def φ_names {K : PySem.W.Frag} {mg : Str → Option Value} (T : Txt K mg) : Addr → Addr → Option Addr → PSp := fun a D d As k _ => ∃ (fs : List (Str × Asn)) (ns : List Str), As = [Ea a d fs] ∧ NameOf T D ns ∧ k (.o (Lc (ns.map Sr)))
theorem ok_names (T : Txt K mg) : Vb.FnE P w K mg base 1 T.f__law_class_names T.fd__law_class_names ["error"] (toSpE (φ_names T)) := by
  refine okPE T.d__law_class_names.F sc__law_class_names (by decide) (fun a D d As k X h => by obtain ⟨_, _, rfl, _⟩ := h; rfl) fun cdv A0 outer s H E e D d c As kk X hz hf hr hot hX h => ?_
  obtain ⟨fs, ns, rfl, h, q⟩ := h
  obtain ⟨ea, oe⟩ := e
  have xk_NotInField := T.xk_NotInField
  have xk_OutOfRange := T.xk_OutOfRange
  have xk_TooLarge := T.xk_TooLarge
  have xk_WrongPlaces := T.xk_WrongPlaces
  have xk_NotPrime := T.xk_NotPrime
  have xk_NotCircuit := T.xk_NotCircuit
  have pin : (ea, oe) ∈ (L2H.cxH CX0 P w K mg base N__law_class_names "_law_class_names" (defScope s__law_class_names) T.f__law_class_names cdv A0 outer s H E (ea, oe)).pn := List.mem_singleton.mpr rfl
  obtain ⟨rfl, rfl⟩ | h := h
  · have xk := T.xk_NotInField
    have k_NotPrime := T.k_NotInField_NotPrime
    have k_WrongPlaces := T.k_NotInField_WrongPlaces
    have k_NotInField := T.k_NotInField_NotInField
    have k_OutOfRange := T.k_NotInField_OutOfRange
    have k_NotCircuit := T.k_NotInField_NotCircuit
    have k_TooLarge := T.k_NotInField_TooLarge
    refine ⟨_, (pss_cons (ps_set (i := 1) sc__law_class_names.nd rfl (by first | exact Or.inl rfl | exact Or.inr rfl) (pe_lst pa_nil))
      (pss_cons (ps_if (pt_val (pe_callB (Vb.call_isP pin xk hz hf) (by rfl) T.n_isinstance (by decide +kernel) (pa_cons (pv 0) (pa_cons (pe_glob (v := .ref T.C_NotPrime) (by rfl) T.i_NotPrime.g rfl) pa_nil)))) (pss_one (ps_expr (pe_bm PySem.F.plainAttrs_list PySem.F.slot_list_append PySem.F.type_list_append mt_append (pv 1) (pa_cons pe_str pa_nil)))) pss_nil)
      (pss_cons (ps_if (pt_val (pe_callB (Vb.call_isP pin xk hz hf) (by rfl) T.n_isinstance (by decide +kernel) (pa_cons (pv 0) (pa_cons (pe_glob (v := .ref T.C_WrongPlaces) (by rfl) T.x_WrongPlaces.g rfl) pa_nil)))) (pss_one (ps_expr (pe_bm PySem.F.plainAttrs_list PySem.F.slot_list_append PySem.F.type_list_append mt_append (pv 1) (pa_cons pe_str pa_nil)))) pss_nil)
      (pss_cons (ps_if (pt_val (pe_callB (Vb.call_isP pin xk hz hf) (by rfl) T.n_isinstance (by decide +kernel) (pa_cons (pv 0) (pa_cons (pe_glob (v := .ref T.C_NotInField) (by rfl) T.i_NotInField.g rfl) pa_nil)))) (pss_one (ps_expr (pe_bm PySem.F.plainAttrs_list PySem.F.slot_list_append PySem.F.type_list_append mt_append (pv 1) (pa_cons pe_str pa_nil)))) pss_nil)
      (pss_cons (ps_if (pt_val (pe_callB (Vb.call_isP pin xk hz hf) (by rfl) T.n_isinstance (by decide +kernel) (pa_cons (pv 0) (pa_cons (pe_glob (v := .ref T.C_OutOfRange) (by rfl) T.x_OutOfRange.g rfl) pa_nil)))) (pss_one (ps_expr (pe_bm PySem.F.plainAttrs_list PySem.F.slot_list_append PySem.F.type_list_append mt_append (pv 1) (pa_cons pe_str pa_nil)))) pss_nil)
      (pss_cons (ps_if (PW.pt (pw_or (pt_val (pe_callB (Vb.call_isP pin xk hz hf) (by rfl) T.n_isinstance (by decide +kernel) (pa_cons (pv 0) (pa_cons (pe_glob (v := .ref T.C_NotCircuit) (by rfl) T.x_NotCircuit.g rfl) pa_nil)))) (pw_or1 (pt_val (pe_callB (Vb.call_isP pin xk hz hf) (by rfl) T.n_isinstance (by decide +kernel) (pa_cons (pv 0) (pa_cons (pe_glob (v := .ref T.C_TooLarge) (by rfl) T.x_TooLarge.g rfl) pa_nil))))))) (pss_one (ps_expr (pe_bm PySem.F.plainAttrs_list PySem.F.slot_list_append PySem.F.type_list_append mt_append (pv 1) (pa_cons pe_str pa_nil)))) pss_nil)
      (pss_one (ps_ret (pv 1))))))))), ?_⟩
    change Pu.W _ _ [.v (Ea ea d fs), .un] _
    walk_at "pw"
    exact q
  obtain ⟨rfl, rfl⟩ | h := h
  · have xk := T.xk_OutOfRange
    have k_NotPrime := T.k_OutOfRange_NotPrime
    have k_WrongPlaces := T.k_OutOfRange_WrongPlaces
    have k_NotInField := T.k_OutOfRange_NotInField
    have k_OutOfRange := T.k_OutOfRange_OutOfRange
    have k_NotCircuit := T.k_OutOfRange_NotCircuit
    have k_TooLarge := T.k_OutOfRange_TooLarge
    refine ⟨_, (pss_cons (ps_set (i := 1) sc__law_class_names.nd rfl (by first | exact Or.inl rfl | exact Or.inr rfl) (pe_lst pa_nil))
      (pss_cons (ps_if (pt_val (pe_callB (Vb.call_isP pin xk hz hf) (by rfl) T.n_isinstance (by decide +kernel) (pa_cons (pv 0) (pa_cons (pe_glob (v := .ref T.C_NotPrime) (by rfl) T.i_NotPrime.g rfl) pa_nil)))) (pss_one (ps_expr (pe_bm PySem.F.plainAttrs_list PySem.F.slot_list_append PySem.F.type_list_append mt_append (pv 1) (pa_cons pe_str pa_nil)))) pss_nil)
      (pss_cons (ps_if (pt_val (pe_callB (Vb.call_isP pin xk hz hf) (by rfl) T.n_isinstance (by decide +kernel) (pa_cons (pv 0) (pa_cons (pe_glob (v := .ref T.C_WrongPlaces) (by rfl) T.x_WrongPlaces.g rfl) pa_nil)))) (pss_one (ps_expr (pe_bm PySem.F.plainAttrs_list PySem.F.slot_list_append PySem.F.type_list_append mt_append (pv 1) (pa_cons pe_str pa_nil)))) pss_nil)
      (pss_cons (ps_if (pt_val (pe_callB (Vb.call_isP pin xk hz hf) (by rfl) T.n_isinstance (by decide +kernel) (pa_cons (pv 0) (pa_cons (pe_glob (v := .ref T.C_NotInField) (by rfl) T.i_NotInField.g rfl) pa_nil)))) (pss_one (ps_expr (pe_bm PySem.F.plainAttrs_list PySem.F.slot_list_append PySem.F.type_list_append mt_append (pv 1) (pa_cons pe_str pa_nil)))) pss_nil)
      (pss_cons (ps_if (pt_val (pe_callB (Vb.call_isP pin xk hz hf) (by rfl) T.n_isinstance (by decide +kernel) (pa_cons (pv 0) (pa_cons (pe_glob (v := .ref T.C_OutOfRange) (by rfl) T.x_OutOfRange.g rfl) pa_nil)))) (pss_one (ps_expr (pe_bm PySem.F.plainAttrs_list PySem.F.slot_list_append PySem.F.type_list_append mt_append (pv 1) (pa_cons pe_str pa_nil)))) pss_nil)
      (pss_cons (ps_if (PW.pt (pw_or (pt_val (pe_callB (Vb.call_isP pin xk hz hf) (by rfl) T.n_isinstance (by decide +kernel) (pa_cons (pv 0) (pa_cons (pe_glob (v := .ref T.C_NotCircuit) (by rfl) T.x_NotCircuit.g rfl) pa_nil)))) (pw_or1 (pt_val (pe_callB (Vb.call_isP pin xk hz hf) (by rfl) T.n_isinstance (by decide +kernel) (pa_cons (pv 0) (pa_cons (pe_glob (v := .ref T.C_TooLarge) (by rfl) T.x_TooLarge.g rfl) pa_nil))))))) (pss_one (ps_expr (pe_bm PySem.F.plainAttrs_list PySem.F.slot_list_append PySem.F.type_list_append mt_append (pv 1) (pa_cons pe_str pa_nil)))) pss_nil)
      (pss_one (ps_ret (pv 1))))))))), ?_⟩
    change Pu.W _ _ [.v (Ea ea d fs), .un] _
    walk_at "pw"
    exact q
  obtain ⟨rfl, rfl⟩ | h := h
  · have xk := T.xk_TooLarge
    have k_NotPrime := T.k_TooLarge_NotPrime
    have k_WrongPlaces := T.k_TooLarge_WrongPlaces
    have k_NotInField := T.k_TooLarge_NotInField
    have k_OutOfRange := T.k_TooLarge_OutOfRange
    have k_NotCircuit := T.k_TooLarge_NotCircuit
    have k_TooLarge := T.k_TooLarge_TooLarge
    refine ⟨_, (pss_cons (ps_set (i := 1) sc__law_class_names.nd rfl (by first | exact Or.inl rfl | exact Or.inr rfl) (pe_lst pa_nil))
      (pss_cons (ps_if (pt_val (pe_callB (Vb.call_isP pin xk hz hf) (by rfl) T.n_isinstance (by decide +kernel) (pa_cons (pv 0) (pa_cons (pe_glob (v := .ref T.C_NotPrime) (by rfl) T.i_NotPrime.g rfl) pa_nil)))) (pss_one (ps_expr (pe_bm PySem.F.plainAttrs_list PySem.F.slot_list_append PySem.F.type_list_append mt_append (pv 1) (pa_cons pe_str pa_nil)))) pss_nil)
      (pss_cons (ps_if (pt_val (pe_callB (Vb.call_isP pin xk hz hf) (by rfl) T.n_isinstance (by decide +kernel) (pa_cons (pv 0) (pa_cons (pe_glob (v := .ref T.C_WrongPlaces) (by rfl) T.x_WrongPlaces.g rfl) pa_nil)))) (pss_one (ps_expr (pe_bm PySem.F.plainAttrs_list PySem.F.slot_list_append PySem.F.type_list_append mt_append (pv 1) (pa_cons pe_str pa_nil)))) pss_nil)
      (pss_cons (ps_if (pt_val (pe_callB (Vb.call_isP pin xk hz hf) (by rfl) T.n_isinstance (by decide +kernel) (pa_cons (pv 0) (pa_cons (pe_glob (v := .ref T.C_NotInField) (by rfl) T.i_NotInField.g rfl) pa_nil)))) (pss_one (ps_expr (pe_bm PySem.F.plainAttrs_list PySem.F.slot_list_append PySem.F.type_list_append mt_append (pv 1) (pa_cons pe_str pa_nil)))) pss_nil)
      (pss_cons (ps_if (pt_val (pe_callB (Vb.call_isP pin xk hz hf) (by rfl) T.n_isinstance (by decide +kernel) (pa_cons (pv 0) (pa_cons (pe_glob (v := .ref T.C_OutOfRange) (by rfl) T.x_OutOfRange.g rfl) pa_nil)))) (pss_one (ps_expr (pe_bm PySem.F.plainAttrs_list PySem.F.slot_list_append PySem.F.type_list_append mt_append (pv 1) (pa_cons pe_str pa_nil)))) pss_nil)
      (pss_cons (ps_if (PW.pt (pw_or (pt_val (pe_callB (Vb.call_isP pin xk hz hf) (by rfl) T.n_isinstance (by decide +kernel) (pa_cons (pv 0) (pa_cons (pe_glob (v := .ref T.C_NotCircuit) (by rfl) T.x_NotCircuit.g rfl) pa_nil)))) (pw_or1 (pt_val (pe_callB (Vb.call_isP pin xk hz hf) (by rfl) T.n_isinstance (by decide +kernel) (pa_cons (pv 0) (pa_cons (pe_glob (v := .ref T.C_TooLarge) (by rfl) T.x_TooLarge.g rfl) pa_nil))))))) (pss_one (ps_expr (pe_bm PySem.F.plainAttrs_list PySem.F.slot_list_append PySem.F.type_list_append mt_append (pv 1) (pa_cons pe_str pa_nil)))) pss_nil)
      (pss_one (ps_ret (pv 1))))))))), ?_⟩
    change Pu.W _ _ [.v (Ea ea d fs), .un] _
    walk_at "pw"
    exact q
  obtain ⟨rfl, rfl⟩ | h := h
  · have xk := T.xk_WrongPlaces
    have k_NotPrime := T.k_WrongPlaces_NotPrime
    have k_WrongPlaces := T.k_WrongPlaces_WrongPlaces
    have k_NotInField := T.k_WrongPlaces_NotInField
    have k_OutOfRange := T.k_WrongPlaces_OutOfRange
    have k_NotCircuit := T.k_WrongPlaces_NotCircuit
    have k_TooLarge := T.k_WrongPlaces_TooLarge
    refine ⟨_, (pss_cons (ps_set (i := 1) sc__law_class_names.nd rfl (by first | exact Or.inl rfl | exact Or.inr rfl) (pe_lst pa_nil))
      (pss_cons (ps_if (pt_val (pe_callB (Vb.call_isP pin xk hz hf) (by rfl) T.n_isinstance (by decide +kernel) (pa_cons (pv 0) (pa_cons (pe_glob (v := .ref T.C_NotPrime) (by rfl) T.i_NotPrime.g rfl) pa_nil)))) (pss_one (ps_expr (pe_bm PySem.F.plainAttrs_list PySem.F.slot_list_append PySem.F.type_list_append mt_append (pv 1) (pa_cons pe_str pa_nil)))) pss_nil)
      (pss_cons (ps_if (pt_val (pe_callB (Vb.call_isP pin xk hz hf) (by rfl) T.n_isinstance (by decide +kernel) (pa_cons (pv 0) (pa_cons (pe_glob (v := .ref T.C_WrongPlaces) (by rfl) T.x_WrongPlaces.g rfl) pa_nil)))) (pss_one (ps_expr (pe_bm PySem.F.plainAttrs_list PySem.F.slot_list_append PySem.F.type_list_append mt_append (pv 1) (pa_cons pe_str pa_nil)))) pss_nil)
      (pss_cons (ps_if (pt_val (pe_callB (Vb.call_isP pin xk hz hf) (by rfl) T.n_isinstance (by decide +kernel) (pa_cons (pv 0) (pa_cons (pe_glob (v := .ref T.C_NotInField) (by rfl) T.i_NotInField.g rfl) pa_nil)))) (pss_one (ps_expr (pe_bm PySem.F.plainAttrs_list PySem.F.slot_list_append PySem.F.type_list_append mt_append (pv 1) (pa_cons pe_str pa_nil)))) pss_nil)
      (pss_cons (ps_if (pt_val (pe_callB (Vb.call_isP pin xk hz hf) (by rfl) T.n_isinstance (by decide +kernel) (pa_cons (pv 0) (pa_cons (pe_glob (v := .ref T.C_OutOfRange) (by rfl) T.x_OutOfRange.g rfl) pa_nil)))) (pss_one (ps_expr (pe_bm PySem.F.plainAttrs_list PySem.F.slot_list_append PySem.F.type_list_append mt_append (pv 1) (pa_cons pe_str pa_nil)))) pss_nil)
      (pss_cons (ps_if (PW.pt (pw_or (pt_val (pe_callB (Vb.call_isP pin xk hz hf) (by rfl) T.n_isinstance (by decide +kernel) (pa_cons (pv 0) (pa_cons (pe_glob (v := .ref T.C_NotCircuit) (by rfl) T.x_NotCircuit.g rfl) pa_nil)))) (pw_or1 (pt_val (pe_callB (Vb.call_isP pin xk hz hf) (by rfl) T.n_isinstance (by decide +kernel) (pa_cons (pv 0) (pa_cons (pe_glob (v := .ref T.C_TooLarge) (by rfl) T.x_TooLarge.g rfl) pa_nil))))))) (pss_one (ps_expr (pe_bm PySem.F.plainAttrs_list PySem.F.slot_list_append PySem.F.type_list_append mt_append (pv 1) (pa_cons pe_str pa_nil)))) pss_nil)
      (pss_one (ps_ret (pv 1))))))))), ?_⟩
    change Pu.W _ _ [.v (Ea ea d fs), .un] _
    walk_at "pw"
    exact q
  obtain ⟨rfl, rfl⟩ | h := h
  · have xk := T.xk_NotPrime
    have k_NotPrime := T.k_NotPrime_NotPrime
    have k_WrongPlaces := T.k_NotPrime_WrongPlaces
    have k_NotInField := T.k_NotPrime_NotInField
    have k_OutOfRange := T.k_NotPrime_OutOfRange
    have k_NotCircuit := T.k_NotPrime_NotCircuit
    have k_TooLarge := T.k_NotPrime_TooLarge
    refine ⟨_, (pss_cons (ps_set (i := 1) sc__law_class_names.nd rfl (by first | exact Or.inl rfl | exact Or.inr rfl) (pe_lst pa_nil))
      (pss_cons (ps_if (pt_val (pe_callB (Vb.call_isP pin xk hz hf) (by rfl) T.n_isinstance (by decide +kernel) (pa_cons (pv 0) (pa_cons (pe_glob (v := .ref T.C_NotPrime) (by rfl) T.i_NotPrime.g rfl) pa_nil)))) (pss_one (ps_expr (pe_bm PySem.F.plainAttrs_list PySem.F.slot_list_append PySem.F.type_list_append mt_append (pv 1) (pa_cons pe_str pa_nil)))) pss_nil)
      (pss_cons (ps_if (pt_val (pe_callB (Vb.call_isP pin xk hz hf) (by rfl) T.n_isinstance (by decide +kernel) (pa_cons (pv 0) (pa_cons (pe_glob (v := .ref T.C_WrongPlaces) (by rfl) T.x_WrongPlaces.g rfl) pa_nil)))) (pss_one (ps_expr (pe_bm PySem.F.plainAttrs_list PySem.F.slot_list_append PySem.F.type_list_append mt_append (pv 1) (pa_cons pe_str pa_nil)))) pss_nil)
      (pss_cons (ps_if (pt_val (pe_callB (Vb.call_isP pin xk hz hf) (by rfl) T.n_isinstance (by decide +kernel) (pa_cons (pv 0) (pa_cons (pe_glob (v := .ref T.C_NotInField) (by rfl) T.i_NotInField.g rfl) pa_nil)))) (pss_one (ps_expr (pe_bm PySem.F.plainAttrs_list PySem.F.slot_list_append PySem.F.type_list_append mt_append (pv 1) (pa_cons pe_str pa_nil)))) pss_nil)
      (pss_cons (ps_if (pt_val (pe_callB (Vb.call_isP pin xk hz hf) (by rfl) T.n_isinstance (by decide +kernel) (pa_cons (pv 0) (pa_cons (pe_glob (v := .ref T.C_OutOfRange) (by rfl) T.x_OutOfRange.g rfl) pa_nil)))) (pss_one (ps_expr (pe_bm PySem.F.plainAttrs_list PySem.F.slot_list_append PySem.F.type_list_append mt_append (pv 1) (pa_cons pe_str pa_nil)))) pss_nil)
      (pss_cons (ps_if (PW.pt (pw_or (pt_val (pe_callB (Vb.call_isP pin xk hz hf) (by rfl) T.n_isinstance (by decide +kernel) (pa_cons (pv 0) (pa_cons (pe_glob (v := .ref T.C_NotCircuit) (by rfl) T.x_NotCircuit.g rfl) pa_nil)))) (pw_or1 (pt_val (pe_callB (Vb.call_isP pin xk hz hf) (by rfl) T.n_isinstance (by decide +kernel) (pa_cons (pv 0) (pa_cons (pe_glob (v := .ref T.C_TooLarge) (by rfl) T.x_TooLarge.g rfl) pa_nil))))))) (pss_one (ps_expr (pe_bm PySem.F.plainAttrs_list PySem.F.slot_list_append PySem.F.type_list_append mt_append (pv 1) (pa_cons pe_str pa_nil)))) pss_nil)
      (pss_one (ps_ret (pv 1))))))))), ?_⟩
    change Pu.W _ _ [.v (Ea ea d fs), .un] _
    walk_at "pw"
    exact q
  obtain ⟨rfl, rfl⟩ := h
  · have xk := T.xk_NotCircuit
    have k_NotPrime := T.k_NotCircuit_NotPrime
    have k_WrongPlaces := T.k_NotCircuit_WrongPlaces
    have k_NotInField := T.k_NotCircuit_NotInField
    have k_OutOfRange := T.k_NotCircuit_OutOfRange
    have k_NotCircuit := T.k_NotCircuit_NotCircuit
    have k_TooLarge := T.k_NotCircuit_TooLarge
    refine ⟨_, (pss_cons (ps_set (i := 1) sc__law_class_names.nd rfl (by first | exact Or.inl rfl | exact Or.inr rfl) (pe_lst pa_nil))
      (pss_cons (ps_if (pt_val (pe_callB (Vb.call_isP pin xk hz hf) (by rfl) T.n_isinstance (by decide +kernel) (pa_cons (pv 0) (pa_cons (pe_glob (v := .ref T.C_NotPrime) (by rfl) T.i_NotPrime.g rfl) pa_nil)))) (pss_one (ps_expr (pe_bm PySem.F.plainAttrs_list PySem.F.slot_list_append PySem.F.type_list_append mt_append (pv 1) (pa_cons pe_str pa_nil)))) pss_nil)
      (pss_cons (ps_if (pt_val (pe_callB (Vb.call_isP pin xk hz hf) (by rfl) T.n_isinstance (by decide +kernel) (pa_cons (pv 0) (pa_cons (pe_glob (v := .ref T.C_WrongPlaces) (by rfl) T.x_WrongPlaces.g rfl) pa_nil)))) (pss_one (ps_expr (pe_bm PySem.F.plainAttrs_list PySem.F.slot_list_append PySem.F.type_list_append mt_append (pv 1) (pa_cons pe_str pa_nil)))) pss_nil)
      (pss_cons (ps_if (pt_val (pe_callB (Vb.call_isP pin xk hz hf) (by rfl) T.n_isinstance (by decide +kernel) (pa_cons (pv 0) (pa_cons (pe_glob (v := .ref T.C_NotInField) (by rfl) T.i_NotInField.g rfl) pa_nil)))) (pss_one (ps_expr (pe_bm PySem.F.plainAttrs_list PySem.F.slot_list_append PySem.F.type_list_append mt_append (pv 1) (pa_cons pe_str pa_nil)))) pss_nil)
      (pss_cons (ps_if (pt_val (pe_callB (Vb.call_isP pin xk hz hf) (by rfl) T.n_isinstance (by decide +kernel) (pa_cons (pv 0) (pa_cons (pe_glob (v := .ref T.C_OutOfRange) (by rfl) T.x_OutOfRange.g rfl) pa_nil)))) (pss_one (ps_expr (pe_bm PySem.F.plainAttrs_list PySem.F.slot_list_append PySem.F.type_list_append mt_append (pv 1) (pa_cons pe_str pa_nil)))) pss_nil)
      (pss_cons (ps_if (PW.pt (pw_or (pt_val (pe_callB (Vb.call_isP pin xk hz hf) (by rfl) T.n_isinstance (by decide +kernel) (pa_cons (pv 0) (pa_cons (pe_glob (v := .ref T.C_NotCircuit) (by rfl) T.x_NotCircuit.g rfl) pa_nil)))) (pw_or1 (pt_val (pe_callB (Vb.call_isP pin xk hz hf) (by rfl) T.n_isinstance (by decide +kernel) (pa_cons (pv 0) (pa_cons (pe_glob (v := .ref T.C_TooLarge) (by rfl) T.x_TooLarge.g rfl) pa_nil))))))) (pss_one (ps_expr (pe_bm PySem.F.plainAttrs_list PySem.F.slot_list_append PySem.F.type_list_append mt_append (pv 1) (pa_cons pe_str pa_nil)))) pss_nil)
      (pss_one (ps_ret (pv 1))))))))), ?_⟩
    change Pu.W _ _ [.v (Ea ea d fs), .un] _
    walk_at "pw"
    exact q
end

end K
namespace K
open PySem PySem.Spec PyProof.Rows L2
abbrev N__law_spoil_list : List Str := ["row", "item"]
theorem sc__law_spoil_list : FnScope N__law_spoil_list ["row"] (defScope s__law_spoil_list) := ⟨rfl, rfl, rfl, by decide +kernel, rfl, by decide +kernel, by decide +kernel⟩
section
variable {P : Program} {w : World} {K : PySem.W.Frag} {mg : Str → Option Value} {base : Heap}
open Pu
theorem okp_spoilN (T : Txt K mg) : FnOk P w K mg base (L2N.CX P w) 1 T.f__law_spoil_list T.fd__law_spoil_list ["row"] (spSpoilN K) := by
  refine Vb.okN T.d__law_spoil_list.F sc__law_spoil_list (fun vs H Q E h => ?_) (fun cdv A outer s H vs Q E hr h => ?_)
  · obtain ⟨a, xs, rfl, _⟩ := h
    rfl
  · obtain ⟨a, xs, rfl, ha, hl, hx, q⟩ := h
    refine ⟨_, (pss_one (ps_if (pt_val (pe_callB call_isi (by rfl) T.n_isinstance (by decide +kernel) (pa_cons (pv 0) (pa_cons (pe_bltn (v := .ty "list") (by rfl) T.n_list (by decide +kernel) rfl) pa_nil)))) (pss_cons (ps_for (L2.passes_of rfl) rfl (pi_list (pv 0)) (pg_name (i := 1) sc__law_spoil_list.nd rfl (by first | exact Or.inl rfl | exact Or.inr rfl))
        (pss_one (ps_if (pt_val (pe_callB call_isi (by rfl) T.n_isinstance (by decide +kernel) (pa_cons (pv 1) (pa_cons (pe_bltn (v := .ty "list") (by rfl) T.n_list (by decide +kernel) rfl) pa_nil)))) (pss_one (ps_expr (pe_bm PySem.F.plainAttrs_list PySem.F.slot_list_append PySem.F.type_list_append mt_append (pv 1) (pa_cons pe_int pa_nil)))) pss_nil)))
      (pss_cons (ps_expr (pe_bm0 PySem.F.plainAttrs_list PySem.F.slot_list_reverse PySem.F.type_list_reverse mt_reverse (pv 0)))
      (pss_one (ps_expr (pe_bm PySem.F.plainAttrs_list PySem.F.slot_list_append PySem.F.type_list_append mt_append (pv 0) (pa_cons pe_non pa_nil)))))) pss_nil)), ?_⟩
    (change (_ : L2.TS) _ ([some (.ref a), none] : L2.St) _); try dsimp only [L2.cxOf, L2H.cxH]
    walk_at "rd"
    refine ⟨_, _, _, _, true, rfl, .ty _, .base (.lst ha), kit_ty (a := "list") (b := "list") (by decide +kernel), ?_⟩
    walk_at "rd"
    refine Vb.lp_list (xs := xs) (fun i σ H' => (∃ us : List (Addr × List V), (∀ u ∈ us, u.1 = a ∨ (V.ref u.1 ∈ xs ∧ ∃ ys, H u.1 = some (.lst ys))) ∧ H' = updL H us) ∧ H' a = some (.lst xs) ∧ (∀ b ys, H b = some (.tup ys) → H' b = some (.tup ys)) ∧ (∀ b ys, b ≠ a → H b = some (.lst ys) → ∃ zs, H' b = some (.lst zs) ∧ zs.length ≤ ys.length + i) ∧ ∃ y, σ = [some (.ref a), y]) ⟨⟨[], fun u m => (by cases m), rfl⟩, ha, fun b ys h => h, fun b ys _ h => ⟨ys, h, Nat.le_refl _⟩, none, rfl⟩ (fun i σ H' _ c => Vb.sq_of c.2.1) ?_ ?_
    · rintro i x σ H' hi ⟨⟨us, hus, rfl⟩, h1, h2, h3, y, rfl⟩
      have mx := List.mem_of_getElem? hi
      have li := (List.getElem?_eq_some_iff.mp hi).1
      obtain ⟨b, rfl, ⟨nb, ys, hb, ly⟩ | ⟨ys, hb⟩⟩ := hx x mx
      · obtain ⟨zs, hz, lz⟩ := h3 b ys nb hb
        walk_at "rd"
        refine ⟨_, _, _, _, true, rfl, .ty _, .base (.lst hz), kit_ty (a := "list") (b := "list") (by decide +kernel), ?_⟩
        walk_at "rd"
        refine ⟨⟨us ++ [(b, zs ++ [.int 0])], fun u m => ?_, by rw [updL_snoc]⟩, by rw [upd_ne (Ne.symm nb)]; exact h1, fun b' ys' h => ?_, fun b' ys' n' h => ?_, _, rfl⟩
        · rcases List.mem_append.mp m with m | m
          · exact hus u m
          · rw [List.mem_singleton.mp m]
            exact .inr ⟨mx, ys, hb⟩
        · rw [upd_ne fun e => by rw [e, hb] at h; cases h]
          exact h2 b' ys' h
        · by_cases e : b' = b
          · subst e
            rw [hb] at h
            cases h
            exact ⟨_, upd_same, by rw [List.length_append]; show _ + 1 ≤ _; omega⟩
          · obtain ⟨ws, w1, w2⟩ := h3 b' ys' n' h
            exact ⟨ws, by rw [upd_ne e]; exact w1, by omega⟩
      · have hz := h2 b ys hb
        walk_at "rd"
        refine ⟨_, _, _, _, false, rfl, .ty _, .base (.tup hz), kit_ty (a := "tuple") (b := "list") (by decide +kernel), ?_⟩
        walk_at "rd"
        exact ⟨⟨us, hus, rfl⟩, h1, h2, fun b' ys' n' h => (h3 b' ys' n' h).elim fun ws ⟨w1, w2⟩ => ⟨ws, w1, by omega⟩, _, rfl⟩
    · rintro σ H' ⟨⟨us, hus, rfl⟩, h1, h2, h3, y, rfl⟩
      walk_at "rd"
      refine Vb.r_app (upd_same) (Vb.size_lt (by rw [List.length_reverse]; omega)) ?_
      have := q (us ++ [(a, xs.reverse)] ++ [(a, xs.reverse ++ [.non])]) fun u m => by
        rcases List.mem_append.mp m with m | m
        · rcases List.mem_append.mp m with m | m
          · exact hus u m
          · rw [List.mem_singleton.mp m]
            exact .inl rfl
        · rw [List.mem_singleton.mp m]
          exact .inl rfl
      rw [updL_snoc, updL_snoc] at this
      exact this
end
end K
namespace K
open PySem PySem.Spec PyProof.Rows L2
section
open PySem PySem.Spec PyProof.Rows L2 Pu
/-! ### the values of a circuit -/
def gval (p : Int) (m : Bool) (a b : Int) : Int := if m then a * b % p else (a + b) % p
def layerV (p : Int) (gs : List Gt) (t : List Int) : List Int := gs.map fun g => gval p g.m (t.getD g.l 0) (t.getD g.r 0)
def vals (p : Int) : List (List Gt) → List Int → List (List Int)
  | [], xs => [xs]
  | gs :: ls, xs => layerV p gs ((vals p ls xs).headD []) :: vals p ls xs
theorem vals_len {p : Int} {xs : List Int} : ∀ {ls : List (List Gt)}, (vals p ls xs).length = ls.length + 1
  | [] => rfl
  | _ :: ls => by
    show (vals p ls xs).length + 1 = _
    rw [vals_len (ls := ls)]
    rfl
theorem gval_bd {p a b : Int} {m : Bool} (hp : 0 < p) : 0 ≤ gval p m a b ∧ gval p m a b < p := by
  unfold gval
  split <;> exact ⟨Int.emod_nonneg _ (by omega), Int.emod_lt_of_pos _ hp⟩
theorem layerV_bd {p : Int} {gs : List Gt} {t : List Int} (hp : 0 < p) : ∀ x ∈ layerV p gs t, 0 ≤ x ∧ x < p := fun x m => by
  obtain ⟨g, _, rfl⟩ := List.mem_map.mp m
  exact gval_bd hp
theorem vals_bd {p : Int} {xs : List Int} (hp : 0 < p) (hx : ∀ x ∈ xs, 0 ≤ x ∧ x < p) : ∀ {ls : List (List Gt)}, ∀ t ∈ vals p ls xs, ∀ x ∈ t, 0 ≤ x ∧ x < p
  | [], t, m, x, mx => by
    rw [List.mem_singleton.mp m] at mx
    exact hx x mx
  | gs :: ls, t, m, x, mx => by
    rcases List.mem_cons.mp m with rfl | m
    · exact layerV_bd hp x mx
    · exact vals_bd hp hx (ls := ls) t m x mx
/-- row k of the values: of the layers from k on -/
theorem vals_at {p : Int} {xs : List Int} : ∀ {ls : List (List Gt)} {k : Nat}, k ≤ ls.length → (vals p ls xs)[k]? = some ((vals p (ls.drop k) xs).headD [])
  | [], 0, _ => rfl
  | _ :: _, 0, _ => rfl
  | [], _ + 1, h => by cases h
  | _ :: ls, k + 1, h => by
    show (vals p ls xs)[k]? = _
    exact vals_at (ls := ls) (by simpa using h)
theorem vals_lens {p : Int} {xs : List Int} {w : Nat} (lx : xs.length = w) : ∀ {ls : List (List Gt)}, (vals p ls xs).map List.length = wds ls w
  | [] => by
    show [xs.length] = [w]
    rw [lx]
  | gs :: ls => by
    show (layerV p gs _).length :: (vals p ls xs).map List.length = gs.length :: wds ls w
    rw [vals_lens lx, layerV, List.length_map]
theorem vals_lenAt {p : Int} {xs : List Int} {w b k : Nat} {ls : List (List Gt)} {t : List Int} (lx : xs.length = w) (ht : (vals p ls xs)[k]? = some t) (hb : (wds ls w)[k]? = some b) : t.length = b := by
  rw [← vals_lens (p := p) lx, List.getElem?_map, ht] at hb
  exact Option.some.inj hb
theorem vals_step {p : Int} {xs : List Int} {ls : List (List Gt)} {k : Nat} {gs : List Gt} (h : ls[k]? = some gs) : vals p (ls.drop k) xs = layerV p gs ((vals p (ls.drop (k + 1)) xs).headD []) :: vals p (ls.drop (k + 1)) xs := by
  have l := (List.getElem?_eq_some_iff.mp h).1
  rw [List.drop_eq_getElem_cons l]
  have e := (List.getElem?_eq_some_iff.mp h).2
  rw [e]
  rfl
theorem e_revT {so : Option Addr} {c : Ct so} {K K' : PySem.W.Frag} {env : Ev} {k : Rs → Ev → Prop} {te : TE} (e0 : K' = K) (h : Pu.E c te env fun r env1 => ∃ As, r = .v (Tu K As) ∧ k (.v (Tu K As.reverse)) env1) : Pu.E c (Vb.tRevT K' te) env k := fun S σ H Q R z => by
  subst e0
  refine h S σ H _ R fun S1 x H1 r env1 g1 e1 R1 q1 => ?_
  obtain ⟨As, rfl, g⟩ := g1
  obtain ⟨a, xs, rfl, s, q⟩ := q1
  refine ⟨a, xs, rfl, Vb.sqd R1.sh s, fun p np => ?_⟩
  have es := Vb.same_new (o := .tup xs.reverse) (R1.s_none np)
  exact z _ _ _ (.v (Tu K' As.reverse)) env1 g (e1.trans es) (R1.new np) ⟨p, _, rfl, upd_same, q.rev.up es⟩
theorem atI_neg1 {α : Type} {xs : List α} {y : α} (h : xs.reverse[0]? = some y) : atI xs (-1) = some y := by
  unfold atI ixN
  have l := (List.getElem?_eq_some_iff.mp h).1
  rw [List.length_reverse] at l
  rw [List.getElem?_reverse (by omega)] at h
  rw [if_neg (by decide), if_pos (by omega)]
  show xs[((-1 : Int) + (xs.length : Int)).toNat]? = some y
  rw [show ((-1 : Int) + (xs.length : Int)).toNat = xs.length - 1 - 0 by omega]
  exact h
end
section
variable {K : PySem.W.Frag} {mg : Str → Option Value} {T : Txt K mg}
open Pu
theorem nl_circ {ls : List (List Gt)} {w : Nat} : NL (CircA T ls w) := by
  have h : NLs [Tu K (ls.map fun gs => Tu K (gs.map (gtA K))), I w, Tu K ((wds ls w).map fun n : Nat => I n)] := inferInstance
  exact ⟨fun k ⟨a, dx, gs, e, s, n, q⟩ => ⟨a, dx, gs, e, k _ _ s trivial, n, h.nl k q⟩⟩
end
end K
namespace K
open PySem PySem.Spec PyProof.Rows L2
abbrev N_gate_value : List Str := ["prime", "gate", "below", "kind", "left", "right"]
theorem sc_gate_value : FnScope N_gate_value ["prime", "gate", "below"] (defScope s_gate_value) := ⟨rfl, rfl, rfl, by decide +kernel, rfl, by decide +kernel, by decide +kernel⟩
section
variable {P : Program} {w : World} {K : PySem.W.Frag} {mg : Str → Option Value} {base : Heap}
open Pu
local macro_rules | `(tactic| walk_at "pr1") => `(tactic| ((with_reducible refine w_asgG ?_)))
local macro_rules | `(tactic| walk_at "pr1") => `(tactic| ((with_reducible refine' Pu.g_threeK ?h0_ ?k_); (case h0_ => walk_at "kK"); (try dsimp only [List.set])))
def φ_gatevalue (K : PySem.W.Frag) : PSp := fun As k _ => ∃ (p : Int) (g : Gt) (t : List Int) (A : Asn), As = [I p, gtA K g, A] ∧ SqOf K A (t.map I) ∧ 2 ≤ p ∧ p ≤ 101 ∧ g.l < t.length ∧ g.r < t.length ∧ (∀ x ∈ t, 0 ≤ x ∧ x < p) ∧ k (.v (I (gval p g.m (t.getD g.l 0) (t.getD g.r 0))))
theorem ok_gatevalue (T : Txt K mg) : FnOk P w K mg base (L2N.CX P w) 1 T.f_gate_value T.fd_gate_value ["prime", "gate", "below"] (toSp (φ_gatevalue K)) := by

  skip
  refine okP T.d_gate_value.F sc_gate_value (by decide) (by intro As k X h; iterate 30 (all_goals first | (obtain ⟨rfl, _⟩ := h; rfl) | (obtain rfl := h; rfl) | (obtain ⟨_, h⟩ := h) | (rcases h with h | h))) fun cdv A0 outer s H E c As kk X hr hX h => ?_
  obtain ⟨p, g, t, A, rfl, hA, h2, hp, hl, hr2, ht, q⟩ := h
  have gt1 : ∀ j : Nat, j < t.length → t[j]? = some (t.getD j 0) := fun j h => by
    rw [List.getD_eq_getElem?_getD, List.getElem?_eq_getElem h]
    rfl
  have a1 : atI t (g.l : Int) = some (t.getD g.l 0) := at_ g.l rfl (gt1 _ hl)
  have a2 : atI t (g.r : Int) = some (t.getD g.r 0) := at_ g.r rfl (gt1 _ hr2)
  have b1 := ht _ (List.mem_of_getElem? (gt1 _ hl))
  have b2 := ht _ (List.mem_of_getElem? (gt1 _ hr2))
  refine ⟨_, (pss_cons (ps_asg (pv 1) (pg_tup (n := 3) rfl (pgs_cons (pg_name (i := 3) sc_gate_value.nd rfl (by first | exact Or.inl rfl | exact Or.inr rfl)) (pgs_cons (pg_name (i := 4) sc_gate_value.nd rfl (by first | exact Or.inl rfl | exact Or.inr rfl)) (pgs_cons (pg_name (i := 5) sc_gate_value.nd rfl (by first | exact Or.inl rfl | exact Or.inr rfl)) pgs_nil)))))
      (pss_cons (ps_if (pt_cmpR op_eq (pv 3) (pe_glob (v := .str (Str.ofString "add")) (by rfl) T.c_ADD ⟨_, rfl⟩) (nomark _)) (pss_one (ps_ret (pe_op op_mod (pe_op op_add (pe_ix ix_seq (pv 2) (pv 4) (fun _ _ => rfl)) (pe_ix ix_seq (pv 2) (pv 5) (fun _ _ => rfl))) (pv 0)))) pss_nil)
      (pss_one (ps_ret (pe_op op_mod (pe_op op_mul (pe_ix ix_seq (pv 2) (pv 4) (fun _ _ => rfl)) (pe_ix ix_seq (pv 2) (pv 5) (fun _ _ => rfl))) (pv 0)))))), ?_⟩
  change Pu.W _ _ [.v (I p), .v (gtA K g), .v (A), .un, .un, .un] _
  walk_at "pw"
  refine Vb.r_ite (fun c => ?_) (fun c => ?_)
  · have hm : g.m = false := kd_inj.mp (show kdS g.m = kdS false from c)
    rw [show gval p g.m (t.getD g.l 0) (t.getD g.r 0) = (t.getD g.l 0 + t.getD g.r 0) % p by unfold gval; rw [hm]; rfl] at q
    walk_at "pw"
    exact q
  · have hm : g.m = true := by
      cases h : g.m with
      | true => rfl
      | false => exact (c (by rw [h]; rfl)).elim
    rw [show gval p g.m (t.getD g.l 0) (t.getD g.r 0) = t.getD g.l 0 * t.getD g.r 0 % p by unfold gval; rw [hm]; rfl] at q
    walk_at "pw"
    exact q
end
end K
namespace K
open PySem PySem.Spec PyProof.Rows L2
abbrev N_check_inputs : List Str := ["circuit", "prime", "inputs"]
theorem sc_check_inputs : FnScope N_check_inputs ["circuit", "prime", "inputs"] (defScope s_check_inputs) := ⟨rfl, rfl, rfl, by decide +kernel, rfl, by decide +kernel, by decide +kernel⟩
section
variable {P : Program} {w : World} {K : PySem.W.Frag} {mg : Str → Option Value} {base : Heap}
open Pu
def φ_checkinputs {K : PySem.W.Frag} {mg : Str → Option Value} (T : Txt K mg) : PSp := fun As k X => ∃ (ls : List (List Gt)) (w : Nat) (p : Int) (C : Asn) (Cs : List Asn) (es : List PyData), As = [CircA T ls w, I p, C] ∧ SqOf K C Cs ∧ DsOf K Cs es ∧ Pt p T.C_WrongPlaces T.C_NotInField X w Cs es (k (.v No))
theorem ok_checkinputs (T : Txt K mg) : FnOk P w K mg base (L2N.CX P w) 5 T.f_check_inputs T.fd_check_inputs ["circuit", "prime", "inputs"] (toSp (φ_checkinputs T)) := by
  have G_check_length := okp_checklength (P := P) (w := w) (base := base) T
  have G_check_numbers := okp_checknumbers (P := P) (w := w) (base := base) T
  have c_Circuit := T.c_Circuit; have a_Circuit_width := T.a_Circuit_width
  refine okP T.d_check_inputs.F sc_check_inputs (by decide) (by intro As k X h; iterate 30 (all_goals first | (obtain ⟨rfl, _⟩ := h; rfl) | (obtain rfl := h; rfl) | (obtain ⟨_, h⟩ := h) | (rcases h with h | h))) fun cdv A0 outer s H E c As kk X hr hX h => ?_
  obtain ⟨ls, w, p, C, Cs, es, rfl, hC, he, q1, q2⟩ := h
  refine ⟨_, (pss_cons (ps_expr (pe_callS G_check_length (hr.mono (by first | decide | omega)) (by rfl) T.d_check_length.g T.d_check_length.F.kp T.d_check_length.b (fun σ => L2N.passAt (L2N.takes_of rfl rfl rfl rfl) σ) (pa_cons (pv 2) (pa_cons (pe_fld (pv 0) (by rfl)) pa_nil))))
      (pss_one (ps_expr (pe_callS G_check_numbers (hr.mono (by first | decide | omega)) (by rfl) T.d_check_numbers.g T.d_check_numbers.F.kp T.d_check_numbers.b (fun σ => L2N.passAt (L2N.takes_of rfl rfl rfl rfl) σ) (pa_cons (pv 1) (pa_cons (pv 2) pa_nil)))))), ?_⟩
  change Pu.W _ _ [.v (CircA T ls w), .v (I p), .v (C)] _
  walk_at "pw"
  refine ⟨_, _, _, rfl, hC, fun h => ?_, fun h => q1 (by have := he.1; omega)⟩
  obtain ⟨q3, q4⟩ := q2 (by have := he.1; omega)
  walk_at "pw"
  exact ⟨p, _, _, es, rfl, hC, he, fun hx => q4 hx, q3⟩
end
end K
namespace K
open PySem PySem.Spec PyProof.Rows L2

abbrev N_circuit_values : List Str := ["circuit", "prime", "inputs", "tables", "layer", "below", "gate"]
theorem sc_circuit_values : FnScope N_circuit_values ["circuit", "prime", "inputs"] (defScope s_circuit_values) := ⟨rfl, rfl, rfl, by decide +kernel, rfl, by decide +kernel, by decide +kernel⟩
section
variable {P : Program} {w : World} {K : PySem.W.Frag} {mg : Str → Option Value} {base : Heap}
open Pu
def φ_cvals {K : PySem.W.Frag} {mg : Str → Option Value} (T : Txt K mg) : PSpB := fun B As k X => ∃ (ls : List (List Gt)) (w : Nat) (P C : Asn) (dp : PyData) (Cs : List Asn) (es : List PyData), As = [CircA T ls w, P, C] ∧ LOk ls w ∧ (∀ S v, P.r S v → Dp K S v dp) ∧ SqOf K C Cs ∧ DsOf K Cs es ∧
  (field dp = false → X T.C_NotPrime [("value", P)]) ∧ ∀ p : Int, dp = .int p → Vb.Prm p → p ≤ 101 → Pt p T.C_WrongPlaces T.C_NotInField X w Cs es (∀ xs : List Int, es = xs.map PyData.int → k (.o (Lc ((vals p ls xs).map fun t => Nl B (t.map I)))))
theorem ok_cvals (T : Txt K mg) : FnOk P w K mg base (L2N.CX P w) 6 T.f_circuit_values T.fd_circuit_values ["circuit", "prime", "inputs"] (toSpB (φ_cvals T)) := by
  have G_check_prime := okp_checkprime (P := P) (w := w) (base := base) T
  have G_check_inputs := ok_checkinputs (P := P) (w := w) (base := base) T
  have G_gate_value := ok_gatevalue (P := P) (w := w) (base := base) T
  have c_Circuit := T.c_Circuit; have a_Circuit_layers := T.a_Circuit_layers
  refine okPB T.d_circuit_values.F sc_circuit_values (by decide) (fun B As k X h => by obtain ⟨_, _, _, _, _, _, _, rfl, _⟩ := h; rfl) fun cdv A0 outer s H E c As kk X hr hX h => ?_
  obtain ⟨ls, w9, P', C, dp, Cs, es, rfl, hL, hP, hC, he, q1, q2⟩ := h
  have l4 := hL.l4
  refine ⟨_, (pss_cons (ps_expr (pe_callS G_check_prime (hr.mono (by first | decide | omega)) (by rfl) T.d_check_prime.g T.d_check_prime.F.kp T.d_check_prime.b (fun σ => L2N.passAt (L2N.takes_of rfl rfl rfl rfl) σ) (pa_cons (pv 1) pa_nil)))
      (pss_cons (ps_expr (pe_callS G_check_inputs (hr.mono (by first | decide | omega)) (by rfl) T.d_check_inputs.g T.d_check_inputs.F.kp T.d_check_inputs.b (fun σ => L2N.passAt (L2N.takes_of rfl rfl rfl rfl) σ) (pa_cons (pv 0) (pa_cons (pv 1) (pa_cons (pv 2) pa_nil)))))
      (pss_cons (ps_set (i := 3) sc_circuit_values.nd rfl (by first | exact Or.inl rfl | exact Or.inr rfl) (pe_lst (pa_cons (pe_callTy Vb.call_list (by rfl) T.n_list (by decide +kernel) (pa_cons (pv 2) pa_nil)) pa_nil)))
      (pss_cons (ps_for (L2.passes_of rfl) rfl (pi_tup (Vb.pe_revT (pe_fld (pv 0) (by rfl)))) (pg_name (i := 4) sc_circuit_values.nd rfl (by first | exact Or.inl rfl | exact Or.inr rfl))
        (pss_cons (ps_set (i := 5) sc_circuit_values.nd rfl (by first | exact Or.inl rfl | exact Or.inr rfl) (pe_ix ix_list (pv 3) (pe_un un_neg pe_int) (fun _ _ => rfl)))
      (pss_one (ps_expr (pe_bm PySem.F.plainAttrs_list PySem.F.slot_list_append PySem.F.type_list_append mt_append (pv 3) (pa_cons (pe_lc (own := [("gate", 6)]) (g := gName 6) (tt := tYes) rfl sc_circuit_values.nd (pi_tup (pv 4)) (blkOk_by (own := [("gate", 6)]) (N := N_circuit_values) (sc := defScope s_circuit_values) (by decide +kernel)) (fun _ _ _ _ _ => (pg_name (i := 6) sc_circuit_values.nd rfl (by first | exact Or.inl rfl | exact Or.inr rfl))) (fun _ _ _ _ _ => pts_nil) (fun _ _ _ _ _ => (pe_call G_gate_value (hr.mono (by first | decide | omega)) (by rfl) T.d_gate_value.g T.d_gate_value.F.kp T.d_gate_value.b .nil Vb.pass5 (pa_cons (pv 1) (pa_cons (pv 6) (pa_cons (pv 5) pa_nil)))))) pa_nil))))))
      (pss_one (ps_ret (pe_revL (pv 3)))))))), ?_⟩
  change Pu.W _ _ [.v (CircA T ls w9), .v (P'), .v (C), .un, .un, .un, .un] _
  walk_at "pw"
  refine ⟨_, dp, rfl, hP, fun f => ?_, q1⟩
  obtain ⟨p, rfl⟩ : ∃ p, dp = .int p := by
    cases dp with
    | int p => exact ⟨p, rfl⟩
    | _ => cases f
  obtain ⟨hp, hp2⟩ := field_intP f
  have h2 := hp.1
  obtain ⟨q3, q4⟩ := q2 p rfl hp hp2
  refine W.wk (i := 1) (B := I p) rfl (imp_int hP) ?_
  dsimp only [List.set]
  walk_at "pw"
  refine ⟨ls, w9, p, C, Cs, es, rfl, hC, he, q3, fun lz => ⟨(q4 lz).1, fun ox => ?_⟩⟩
  obtain ⟨xs, rfl, hxs⟩ := ints_of ox
  have q5 := (q4 lz).2 ox xs rfl
  have sC := sq_ints hC he
  rw [List.length_map] at lz
  clear q1 q2 q3 q4
  refine w_seq (w_set (e_lst (a_cons (e_newL (Bs := xs.map I) (env' := [.v (CircA T ls w9), .v (I p), .v C, .un, .un, .un, .un]) ?_ ?_))))
  · walk_at "pw"
    first | exact ⟨rfl, rfl⟩ | exact rfl
  walk_at "pw"
  refine e_revT rfl ?_
  walk_at "pw"
  refine ⟨_, rfl, ?_⟩
  walk_at "pw"
  rw [← List.map_reverse]
  refine lpM (xs := ls.reverse) (f := fun gs => Tu K (gs.map (gtA K))) (fun i env => ∃ (s4 s5 s6 : Sl), env = [.v (CircA T ls w9), .v (I p), .v C, .o (Lc ((vals p (ls.drop (ls.length - i)) xs).reverse.map fun t => Nl c.B (t.map I))), s4, s5, s6] ∧ Fre s6) ⟨_, _, _, by rw [Nat.sub_zero, List.drop_length], .un⟩ ?_ ?_
  · rintro i gs env hgs ⟨s4, s5, s6, rfl, f6⟩
    have li := (List.getElem?_eq_some_iff.mp hgs).1
    rw [List.length_reverse] at li
    obtain ⟨kx, hk⟩ : ∃ kx, ls.length - i = kx + 1 := ⟨ls.length - i - 1, by omega⟩
    have hgk : ls[kx]? = some gs := by
      rw [List.getElem?_reverse li] at hgs
      rw [← hgs]
      congr 1
      omega
    obtain ⟨b, hb⟩ := wds_get (ls := ls) (w := w9) (i := kx + 1) (by omega)
    have hrow := vals_at (p := p) (xs := xs) (ls := ls) (k := kx + 1) (by omega)
    have lt := vals_lenAt lz hrow hb
    have bt := vals_bd (by omega) hxs _ (List.mem_of_getElem? hrow)
    have stp := vals_step (p := p) (xs := xs) hgk
    have gG := hL.gt kx gs b hgk hb
    have lg := hL.at_ (wds_at hgk)
    rw [show ls.length - (i + 1) = kx by omega, hk, stp]
    have lV := vals_len (p := p) (xs := xs) (ls := ls.drop (kx + 1))
    rw [List.length_drop] at lV
    obtain ⟨t, V', eV⟩ : ∃ t V', vals p (ls.drop (kx + 1)) xs = t :: V' := by
      cases h : vals p (ls.drop (kx + 1)) xs with
      | nil => rw [h] at lV; cases lV
      | cons t V' => exact ⟨t, V', rfl⟩
    rw [eV] at lt bt lV ⊢
    have lt : t.length = b := lt
    have bt : ∀ x ∈ t, 0 ≤ x ∧ x < p := bt
    have lV : V'.length + 1 = ls.length - (kx + 1) + 1 := lV
    have lV2 : (t :: V').reverse.length ≤ 5 := by rw [List.length_reverse, List.length_cons]; omega
    have aT : atI (t :: V').reverse (-1) = some t := atI_neg1 (by rw [List.reverse_reverse]; rfl)
    have sT := nl_sq (B := c.B) (K := K) (As := t.map I)
    refine g_name (s_v ?_)
    dsimp only [List.set]
    refine w_seq (w_set (Pu.E.imp (k := fun r e => r = .v (Nl c.B (t.map I)) ∧ e = [.v (CircA T ls w9), .v (I p), .v C, .o (Lc ((t :: V').reverse.map fun t => Nl c.B (t.map I))), .v (Tu K (gs.map (gtA K))), s5, s6]) ?_ ?_))
    · walk_at "pw"
      exact ⟨rfl, rfl⟩
    rintro r e ⟨rfl, rfl⟩
    refine s_v ?_
    dsimp only [List.set]
    refine w_drop (e_append rfl (e_newL (Bs := (layerV p gs t).map I) (env' := [.v (CircA T ls w9), .v (I p), .v C, .o (Lc ((t :: V').reverse.map fun t => Nl c.B (t.map I))), .v (Tu K (gs.map (gtA K))), .v (Nl c.B (t.map I)), s6]) ?_ ?_))
    · walk_at "pw"
      refine ⟨_, rfl, Pu.no_fre rfl f6, ?_⟩
      refine lcM_map (g := fun g => I (gval p g.m (t.getD g.l 0) (t.getD g.r 0))) (by omega) (fun c' j g hg => ?_) ?_
      · have gb := gG g (List.mem_of_getElem? hg)
        walk_at "pw"
        refine ⟨p, g, t, _, rfl, sT, h2, hp2, by omega, by omega, bt, ?_⟩
        walk_at "pw"
        exact ⟨rfl, rfl⟩
      exact ⟨rfl, by rw [layerV, List.map_map]; rfl⟩
    · walk_at "pw"
      refine ⟨.v (Tu K (gs.map (gtA K))), .v (Nl c.B (t.map I)), s6, ?_, f6⟩
      rw [List.reverse_cons (as := t :: V'), List.map_append]
      rfl
  · rintro env ⟨s4, s5, s6, rfl, f6⟩
    rw [List.length_reverse, Nat.sub_self]
    walk_at "pw"
    rw [← List.map_reverse, List.reverse_reverse]
    exact q5
end
end K
namespace K
open PySem PySem.Spec PyProof.Rows L2
abbrev N__law_mixed : List Str := ["store", "value", "item"]
theorem sc__law_mixed : FnScope N__law_mixed ["store", "value"] (defScope s__law_mixed) := ⟨rfl, rfl, rfl, by decide +kernel, rfl, by decide +kernel, by decide +kernel⟩
section
variable {P : Program} {w : World} {K : PySem.W.Frag} {mg : Str → Option Value} {base : Heap}
open Pu
/-- a text or a number -/
def φ_mix0 : PSp := fun As k _ => (∃ s : Str, As = [Sr s] ∧ k (.v (Sr s))) ∨ ∃ n : Int, As = [I n] ∧ k (.v (I n))
theorem ok_mix0 (T : Txt K mg) : FnOk P w K mg base (L2N.CX P w) 5 T.f__law_mixed T.fd__law_mixed ["store", "value"] (toSpS φ_mix0) := by
  have G__law_row := okp_row (P := P) (w := w) (base := base) T
  have G__law_mixed : FnOk P w K mg base (L2N.CX P w) 4 T.f__law_mixed T.fd__law_mixed ["store", "value"] (toSpS fun _ _ _ => False) := ⟨fun _ _ _ _ h => by obtain ⟨_, _, _, _, _, _, _, h, _⟩ := h; exact h.elim, fun _ _ _ _ _ _ _ _ _ _ _ _ _ h => by obtain ⟨_, _, _, _, _, _, _, h, _⟩ := h; exact h.elim⟩
  refine okPS T.d__law_mixed.F sc__law_mixed (by decide) (fun As k X h => by obtain ⟨_, rfl, _⟩ | ⟨_, rfl, _⟩ := h <;> rfl) fun cdv A0 outer s H E st c As kk X hr hX h => ?_
  obtain ⟨s9, rfl, q⟩ | ⟨n, rfl, q⟩ := h
  · refine ⟨_, (pss_cons (ps_if (PW.pt (pw_or (pt_val (pe_callB call_isi (by rfl) T.n_isinstance (by decide +kernel) (pa_cons (pv 1) (pa_cons (pe_bltn (v := .ty "list") (by rfl) T.n_list (by decide +kernel) rfl) pa_nil)))) (pw_or1 (pt_val (pe_callB call_isi (by rfl) T.n_isinstance (by decide +kernel) (pa_cons (pv 1) (pa_cons (pe_bltn (v := .ty "tuple") (by rfl) T.n_tuple (by decide +kernel) rfl) pa_nil))))))) (pss_one (ps_ret (pe_callS G__law_row (hr.mono (by first | decide | omega)) (by rfl) T.d__law_row.g T.d__law_row.F.kp T.d__law_row.b (fun σ => L2N.passAt (L2N.takes_of rfl rfl rfl rfl) σ) (pa_cons (pv 0) (pa_cons (pe_lc (own := [("item", 2)]) (g := gName 2) (tt := tYes) rfl sc__law_mixed.nd (Vb.pi_seq (pv 1)) (blkOk_by (own := [("item", 2)]) (N := N__law_mixed) (sc := defScope s__law_mixed) (by decide +kernel)) (fun _ _ _ _ _ => (pg_name (i := 2) sc__law_mixed.nd rfl (by first | exact Or.inl rfl | exact Or.inr rfl))) (fun _ _ _ _ _ => pts_nil) (fun _ _ _ _ _ => (pe_call G__law_mixed (hr.mono (by first | decide | omega)) (by rfl) T.d__law_mixed.g T.d__law_mixed.F.kp T.d__law_mixed.b .nil Vb.pass5 (pa_cons (pv 0) (pa_cons (pv 2) pa_nil))))) pa_nil))))) pss_nil)
      (pss_one (ps_ret (pv 1)))), ?_⟩
    change Pu.W _ _ [.v (Pu.Rf st), .v (Sr s9), .un] _
    walk_at "pw"
    exact q
  · refine ⟨_, (pss_cons (ps_if (PW.pt (pw_or (pt_val (pe_callB call_isi (by rfl) T.n_isinstance (by decide +kernel) (pa_cons (pv 1) (pa_cons (pe_bltn (v := .ty "list") (by rfl) T.n_list (by decide +kernel) rfl) pa_nil)))) (pw_or1 (pt_val (pe_callB call_isi (by rfl) T.n_isinstance (by decide +kernel) (pa_cons (pv 1) (pa_cons (pe_bltn (v := .ty "tuple") (by rfl) T.n_tuple (by decide +kernel) rfl) pa_nil))))))) (pss_one (ps_ret (pe_callS G__law_row (hr.mono (by first | decide | omega)) (by rfl) T.d__law_row.g T.d__law_row.F.kp T.d__law_row.b (fun σ => L2N.passAt (L2N.takes_of rfl rfl rfl rfl) σ) (pa_cons (pv 0) (pa_cons (pe_lc (own := [("item", 2)]) (g := gName 2) (tt := tYes) rfl sc__law_mixed.nd (Vb.pi_seq (pv 1)) (blkOk_by (own := [("item", 2)]) (N := N__law_mixed) (sc := defScope s__law_mixed) (by decide +kernel)) (fun _ _ _ _ _ => (pg_name (i := 2) sc__law_mixed.nd rfl (by first | exact Or.inl rfl | exact Or.inr rfl))) (fun _ _ _ _ _ => pts_nil) (fun _ _ _ _ _ => (pe_call G__law_mixed (hr.mono (by first | decide | omega)) (by rfl) T.d__law_mixed.g T.d__law_mixed.F.kp T.d__law_mixed.b .nil Vb.pass5 (pa_cons (pv 0) (pa_cons (pv 2) pa_nil))))) pa_nil))))) pss_nil)
      (pss_one (ps_ret (pv 1)))), ?_⟩
    change Pu.W _ _ [.v (Pu.Rf st), .v (I n), .un] _
    walk_at "pw"
    exact q
/-- a gate -/
def φ_mix1 (K : PySem.W.Frag) : PSp := fun As k _ => ∃ g : Gt, As = [gtA K g] ∧ k (.o (Lc [Sr (kdS g.m), I g.l, I g.r])) ∧ k (.v (Tu K [Sr (kdS g.m), I g.l, I g.r]))
theorem ok_mix1 (T : Txt K mg) : FnOk P w K mg base (L2N.CX P w) 6 T.f__law_mixed T.fd__law_mixed ["store", "value"] (toSpS (φ_mix1 K)) := by
  have G__law_row := okp_row (P := P) (w := w) (base := base) T
  have G__law_mixed := ok_mix0 (P := P) (w := w) (base := base) T
  refine okPS T.d__law_mixed.F sc__law_mixed (by decide) (fun As k X h => by obtain ⟨_, rfl, _⟩ := h; rfl) fun cdv A0 outer s H E st c As kk X hr hX h => ?_
  obtain ⟨g, rfl, q1, q2⟩ := h
  refine ⟨_, (pss_cons (ps_if (PW.pt (pw_or (pt_val (pe_callB call_isi (by rfl) T.n_isinstance (by decide +kernel) (pa_cons (pv 1) (pa_cons (pe_bltn (v := .ty "list") (by rfl) T.n_list (by decide +kernel) rfl) pa_nil)))) (pw_or1 (pt_val (pe_callB call_isi (by rfl) T.n_isinstance (by decide +kernel) (pa_cons (pv 1) (pa_cons (pe_bltn (v := .ty "tuple") (by rfl) T.n_tuple (by decide +kernel) rfl) pa_nil))))))) (pss_one (ps_ret (pe_callS G__law_row (hr.mono (by first | decide | omega)) (by rfl) T.d__law_row.g T.d__law_row.F.kp T.d__law_row.b (fun σ => L2N.passAt (L2N.takes_of rfl rfl rfl rfl) σ) (pa_cons (pv 0) (pa_cons (pe_lc (own := [("item", 2)]) (g := gName 2) (tt := tYes) rfl sc__law_mixed.nd (Vb.pi_seq (pv 1)) (blkOk_by (own := [("item", 2)]) (N := N__law_mixed) (sc := defScope s__law_mixed) (by decide +kernel)) (fun _ _ _ _ _ => (pg_name (i := 2) sc__law_mixed.nd rfl (by first | exact Or.inl rfl | exact Or.inr rfl))) (fun _ _ _ _ _ => pts_nil) (fun _ _ _ _ _ => (pe_call G__law_mixed (hr.mono (by first | decide | omega)) (by rfl) T.d__law_mixed.g T.d__law_mixed.F.kp T.d__law_mixed.b .nil Vb.pass5 (pa_cons (pv 0) (pa_cons (pv 2) pa_nil))))) pa_nil))))) pss_nil)
      (pss_one (ps_ret (pv 1)))), ?_⟩
  change Pu.W _ _ [.v (Pu.Rf st), .v (gtA K g), .un] _
  walk_at "pw"
  rw [if_neg (by decide +kernel)]
  walk_at "pw"
  refine lcG_map (xs := [Sr (kdS g.m), I g.l, I g.r]) (f := fun A => A) (h := fun A => A) (by show 3 ≤ 16777216; decide) (fun c' i x hx => ?_) ?_
  · rcases List.mem_cons.mp (List.mem_of_getElem? hx) with rfl | m
    · walk_at "pw"
      refine .inl ⟨_, rfl, ?_⟩
      walk_at "pw"
      exact ⟨rfl, rfl⟩
    rcases List.mem_cons.mp m with rfl | m
    · walk_at "pw"
      refine .inr ⟨_, rfl, ?_⟩
      walk_at "pw"
      exact ⟨rfl, rfl⟩
    · obtain rfl := List.mem_singleton.mp m
      walk_at "pw"
      refine .inr ⟨_, rfl, ?_⟩
      walk_at "pw"
      exact ⟨rfl, rfl⟩
  walk_at "pw"
  refine ⟨_, _, rfl, .lst, .inr ⟨?_, ?_⟩⟩
  · walk_at "pw"
    exact q1
  · walk_at "pw"
    exact q2
local macro_rules | `(tactic| walk_at "pE") => `(tactic| ((with_reducible refine' e_lcGB ?h_ ?k_); (case h_ => first | (dsimp only [List.map]; exact rfl) | exact rfl)))
/-- the gates of a layer -/
abbrev gNq (B : Hp) (K : PySem.W.Frag) (g : Gt) : Asn := Nq B K [Sr (kdS g.m), I g.l, I g.r]
def φ_mix2 (K : PySem.W.Frag) : PSpB := fun B As k _ => ∃ gs : List Gt, As = [L (gs.map (gtA K))] ∧ gs.length ≤ 4 ∧ k (.o (Lc (gs.map (gNq B K)))) ∧ k (.v (Tu K (gs.map (gNq B K))))
theorem ok_mix2 (T : Txt K mg) : FnOk P w K mg base (L2N.CX P w) 7 T.f__law_mixed T.fd__law_mixed ["store", "value"] (toSpSB (φ_mix2 K)) := by
  have G__law_row := okp_row (P := P) (w := w) (base := base) T
  have G__law_mixed := ok_mix1 (P := P) (w := w) (base := base) T
  refine okPSB T.d__law_mixed.F sc__law_mixed (by decide) (fun B As k X h => by obtain ⟨_, rfl, _⟩ := h; rfl) fun cdv A0 outer s H E st c As kk X hr hX h => ?_
  obtain ⟨gs, rfl, lg, q1, q2⟩ := h
  refine ⟨_, (pss_cons (ps_if (PW.pt (pw_or (pt_val (pe_callB call_isi (by rfl) T.n_isinstance (by decide +kernel) (pa_cons (pv 1) (pa_cons (pe_bltn (v := .ty "list") (by rfl) T.n_list (by decide +kernel) rfl) pa_nil)))) (pw_or1 (pt_val (pe_callB call_isi (by rfl) T.n_isinstance (by decide +kernel) (pa_cons (pv 1) (pa_cons (pe_bltn (v := .ty "tuple") (by rfl) T.n_tuple (by decide +kernel) rfl) pa_nil))))))) (pss_one (ps_ret (pe_callS G__law_row (hr.mono (by first | decide | omega)) (by rfl) T.d__law_row.g T.d__law_row.F.kp T.d__law_row.b (fun σ => L2N.passAt (L2N.takes_of rfl rfl rfl rfl) σ) (pa_cons (pv 0) (pa_cons (pe_lc (own := [("item", 2)]) (g := gName 2) (tt := tYes) rfl sc__law_mixed.nd (Vb.pi_seq (pv 1)) (blkOk_by (own := [("item", 2)]) (N := N__law_mixed) (sc := defScope s__law_mixed) (by decide +kernel)) (fun _ _ _ _ _ => (pg_name (i := 2) sc__law_mixed.nd rfl (by first | exact Or.inl rfl | exact Or.inr rfl))) (fun _ _ _ _ _ => pts_nil) (fun _ _ _ _ _ => (pe_call G__law_mixed (hr.mono (by first | decide | omega)) (by rfl) T.d__law_mixed.g T.d__law_mixed.F.kp T.d__law_mixed.b .nil Vb.pass5 (pa_cons (pv 0) (pa_cons (pv 2) pa_nil))))) pa_nil))))) pss_nil)
      (pss_one (ps_ret (pv 1)))), ?_⟩
  change Pu.W _ _ [.v (Pu.Rf st), .v (L (gs.map (gtA K))), .un] _
  walk_at "pw"
  refine lcGB_map (xs := gs) (f := gtA K) (h := gNq c.B K) (by omega) (fun c' hB i g hg => ?_) ?_
  · refine gv_name (by decide) ?_
    refine e_new (K := K) (Bs := [Sr (kdS g.m), I g.l, I g.r]) (env' := [.v (Rf st), .v (L (gs.map (gtA K))), .v (gtA K g)]) ?_ ?_
    · walk_at "pw"
      refine ⟨g, rfl, ?_, ?_⟩
      · exact ⟨rfl, .inl rfl⟩
      · exact ⟨rfl, .inr rfl⟩
    · rw [hB]
      walk_at "pw"
      exact ⟨rfl, rfl⟩
  walk_at "pw"
  refine ⟨_, _, rfl, .lst, .inr ⟨?_, ?_⟩⟩
  · walk_at "pw"
    exact q1
  · walk_at "pw"
    exact q2
/-- the layers -/
def φ_mix3 (K : PySem.W.Frag) : PSpB := fun B As k _ => ∃ (ls : List (List Gt)), As = [L (lysA K ls)] ∧ ls.length ≤ 4 ∧ (∀ gs ∈ ls, gs.length ≤ 4) ∧ k (.o (Lc (ls.map fun gs => Nq B K (gs.map (gNq B K))))) ∧ k (.v (Tu K (ls.map fun gs => Nq B K (gs.map (gNq B K)))))
theorem ok_mix3 (T : Txt K mg) : FnOk P w K mg base (L2N.CX P w) 8 T.f__law_mixed T.fd__law_mixed ["store", "value"] (toSpSB (φ_mix3 K)) := by
  have G__law_row := okp_row (P := P) (w := w) (base := base) T
  have G__law_mixed := ok_mix2 (P := P) (w := w) (base := base) T
  refine okPSB T.d__law_mixed.F sc__law_mixed (by decide) (fun B As k X h => by obtain ⟨_, rfl, _⟩ := h; rfl) fun cdv A0 outer s H E st c As kk X hr hX h => ?_
  obtain ⟨ls, rfl, ll, lg, q1, q2⟩ := h
  refine ⟨_, (pss_cons (ps_if (PW.pt (pw_or (pt_val (pe_callB call_isi (by rfl) T.n_isinstance (by decide +kernel) (pa_cons (pv 1) (pa_cons (pe_bltn (v := .ty "list") (by rfl) T.n_list (by decide +kernel) rfl) pa_nil)))) (pw_or1 (pt_val (pe_callB call_isi (by rfl) T.n_isinstance (by decide +kernel) (pa_cons (pv 1) (pa_cons (pe_bltn (v := .ty "tuple") (by rfl) T.n_tuple (by decide +kernel) rfl) pa_nil))))))) (pss_one (ps_ret (pe_callS G__law_row (hr.mono (by first | decide | omega)) (by rfl) T.d__law_row.g T.d__law_row.F.kp T.d__law_row.b (fun σ => L2N.passAt (L2N.takes_of rfl rfl rfl rfl) σ) (pa_cons (pv 0) (pa_cons (pe_lc (own := [("item", 2)]) (g := gName 2) (tt := tYes) rfl sc__law_mixed.nd (Vb.pi_seq (pv 1)) (blkOk_by (own := [("item", 2)]) (N := N__law_mixed) (sc := defScope s__law_mixed) (by decide +kernel)) (fun _ _ _ _ _ => (pg_name (i := 2) sc__law_mixed.nd rfl (by first | exact Or.inl rfl | exact Or.inr rfl))) (fun _ _ _ _ _ => pts_nil) (fun _ _ _ _ _ => (pe_call G__law_mixed (hr.mono (by first | decide | omega)) (by rfl) T.d__law_mixed.g T.d__law_mixed.F.kp T.d__law_mixed.b .nil Vb.pass5 (pa_cons (pv 0) (pa_cons (pv 2) pa_nil))))) pa_nil))))) pss_nil)
      (pss_one (ps_ret (pv 1)))), ?_⟩
  change Pu.W _ _ [.v (Pu.Rf st), .v (L (lysA K ls)), .un] _
  walk_at "pw"
  refine lcGB_map (xs := ls) (f := fun gs => L (gs.map (gtA K))) (h := fun gs => Nq c.B K (gs.map (gNq c.B K))) (by omega) (fun c' hB i gs hg => ?_) ?_
  · have l4 := lg gs (List.mem_of_getElem? hg)
    refine gv_name (by decide) ?_
    refine e_new (K := K) (Bs := gs.map (gNq c.B K)) (env' := [.v (Rf st), .v (L (lysA K ls)), .v (L (gs.map (gtA K)))]) ?_ ?_
    · refine Pu.E.told (e_callZB ?_)
      walk_at "pw"
      refine clsB fun B0 hB0 => ?_
      rw [hB] at hB0
      have mo : Imps (gs.map (gNq B0 K)) (gs.map (gNq c.B K)) := imps_mapN fun g => nq_mono hB0
      refine ⟨_, by walk_at "ps", gs, rfl, l4, ?_, ?_⟩
      · exact ⟨.o (Lc (gs.map (gNq c.B K))), Imp.l mo, rfl, .inl rfl⟩
      · exact ⟨.v (Tu K (gs.map (gNq c.B K))), Imp.T mo, rfl, .inr rfl⟩
    · rw [hB]
      walk_at "pw"
      exact ⟨rfl, rfl⟩
  walk_at "pw"
  refine ⟨_, _, rfl, .lst, .inr ⟨?_, ?_⟩⟩
  · walk_at "pw"
    exact q1
  · walk_at "pw"
    exact q2
end
end K
namespace K
open PySem PySem.Spec PyProof.Rows L2
abbrev N__law_made : List Str := ["store", "layers", "width", "handed", "circuit"]
theorem sc__law_made : FnScope N__law_made ["store", "layers", "width"] (defScope s__law_made) := ⟨rfl, rfl, rfl, by decide +kernel, rfl, by decide +kernel, by decide +kernel⟩
section
variable {P : Program} {w : World} {K : PySem.W.Frag} {mg : Str → Option Value} {base : Heap}
open Pu
local macro_rules | `(tactic| walk_at "pRL") => `(tactic| ((with_reducible refine' r_isNl ?h0_ ?k_); (case h0_ => walk_at "kK")))
theorem sp_mixed {B : Hp} {K : PySem.W.Frag} {ls : List (List Gt)} (ll : ls.length ≤ 4) (lg : ∀ gs ∈ ls, gs.length ≤ 4) {S : Hp} {v : V} (h : (Nl B (ls.map fun gs => Nq B K (gs.map (gNq B K)))).r S v) : SpA B S v := by
  obtain ⟨a, xs, rfl, s, n, q⟩ := h
  have lx := q.len
  rw [List.length_map] at lx
  refine ⟨a, xs, rfl, s, n, by omega, fun x m => ?_⟩
  obtain ⟨i, hi⟩ := List.getElem?_of_mem m
  obtain ⟨A, hA, rA⟩ := q.at_ hi
  rw [List.getElem?_map] at hA
  obtain ⟨gs, hgs, rfl⟩ := Option.map_eq_some_iff.mp hA
  have l4 := lg gs (List.mem_of_getElem? hgs)
  obtain ⟨b, ys, rfl, g, qy⟩ := rA
  have ly := qy.len
  rw [List.length_map] at ly
  refine ⟨b, rfl, ?_⟩
  rcases g with ⟨g, nb⟩ | g
  · refine .inl ⟨fun e => ?_, ys, g, nb, by omega⟩
    subst e
    rw [s] at g
    cases g
    obtain ⟨A, hA, rA⟩ := qy.at_ hi
    rw [List.getElem?_map] at hA
    obtain ⟨gt, _, rfl⟩ := Option.map_eq_some_iff.mp hA
    obtain ⟨b2, zs, e2, g2, qz⟩ := rA
    cases e2
    have g3 : S b = some (.lst zs) := by
      rcases g2 with g2 | g2
      · exact g2.1
      · rw [s] at g2
        cases g2
    rw [s] at g3
    cases g3
    cases xs with
    | nil => exact qz.elim
    | cons z zs =>
      have hz : z = .str (kdS gt.m) := qz.1
      obtain ⟨A, hA, rA⟩ := q.at_ (i := 0) (v := z) rfl
      rw [List.getElem?_map] at hA
      obtain ⟨gs0, _, rfl⟩ := Option.map_eq_some_iff.mp hA
      obtain ⟨b3, _, e3, _⟩ := rA
      rw [hz] at e3
      cases e3
  · exact .inr ⟨ys, g⟩
def φ_made {K : PySem.W.Frag} {mg : Str → Option Value} (T : Txt K mg) : PSp := fun As k _ => ∃ (ls : List (List Gt)) (w : Nat), As = [L (lysA K ls), I w] ∧ LOk ls w ∧ k (.v (CircA T ls w))
theorem ok_made (T : Txt K mg) : FnOk P w K mg base (L2N.CX P w) 9 T.f__law_made T.fd__law_made ["store", "layers", "width"] (toSpS (φ_made T)) := by
  have G__law_mixed := ok_mix3 (P := P) (w := w) (base := base) T
  have G_Circuit___init__ := ok_circ (P := P) (w := w) (base := base) T
  have G__law_spoil_list := okp_spoilN (P := P) (w := w) (base := base) T
  have c_Circuit := T.c_Circuit; have ki_Circuit := T.ki_Circuit; have nl_Circuit := T.nl_Circuit
  refine okPS T.d__law_made.F sc__law_made (by decide) (fun As k X h => by obtain ⟨_, _, rfl, _⟩ := h; rfl) fun cdv A0 outer s H E st c As kk X hr hX h => ?_
  obtain ⟨ls, w9, rfl, hL, q⟩ := h
  have l4 := hL.l4
  have lg : ∀ gs ∈ ls, gs.length ≤ 4 := fun gs m => by
    obtain ⟨i, hi⟩ := List.getElem?_of_mem m
    have := hL.at_ (wds_at hi)
    omega
  refine ⟨_, (pss_cons (ps_set (i := 3) sc__law_made.nd rfl (by first | exact Or.inl rfl | exact Or.inr rfl) (pe_callS G__law_mixed (hr.mono (by first | decide | omega)) (by rfl) T.d__law_mixed.g T.d__law_mixed.F.kp T.d__law_mixed.b (fun σ => L2N.passAt (L2N.takes_of rfl rfl rfl rfl) σ) (pa_cons (pv 0) (pa_cons (pv 1) pa_nil))))
      (pss_cons (ps_set (i := 4) sc__law_made.nd rfl (by first | exact Or.inl rfl | exact Or.inr rfl) (Vb.pe_makeP T.mk_Circuit G_Circuit___init__ (hr.mono (by first | decide | omega)) (by rfl) T.g_Circuit T.d_Circuit___init__.b (fun σ => L2N.passAt (L2N.takes_of rfl rfl rfl rfl) σ) (pa_cons (pv 3) (pa_cons (pv 2) pa_nil))))
      (pss_cons (ps_if (pt_val (pe_callB call_isi (by rfl) T.n_isinstance (by decide +kernel) (pa_cons (pv 3) (pa_cons (pe_bltn (v := .ty "list") (by rfl) T.n_list (by decide +kernel) rfl) pa_nil)))) (pss_one (ps_expr (pe_callS G__law_spoil_list (hr.mono (by first | decide | omega)) (by rfl) T.d__law_spoil_list.g T.d__law_spoil_list.F.kp T.d__law_spoil_list.b (fun σ => L2N.passAt (L2N.takes_of rfl rfl rfl rfl) σ) (pa_cons (pv 3) pa_nil)))) pss_nil)
      (pss_one (ps_ret (pv 4)))))), ?_⟩
  change Pu.W _ _ [.v (Pu.Rf st), .v (L (lysA K ls)), .v (I w9), .un, .un] _
  refine W.base hX fun B hX => ?_
  refine WB0.of ?_
  refine wb_step ?_
  refine w_set (e_new (K := K) (Bs := ls.map fun gs => Nq B K (gs.map (gNq B K))) (env' := [.v (Rf st), .v (L (lysA K ls)), .v (I w9), .un, .un]) ?_ ?_)
  · refine Pu.E.told (e_callSSB hX ?_)
    walk_at "pw"
    refine clsB fun B0 hB0 => ?_
    have hB1 : Same B B0 := hB0
    have mo : Imps (ls.map fun gs => Nq B0 K (gs.map (gNq B0 K))) (ls.map fun gs => Nq B K (gs.map (gNq B K))) := imps_mapN fun gs S v h => nq_imp (imps_mapN fun g => nq_mono hB1) S v (nq_mono hB1 S v h)
    refine ⟨_, by walk_at "ps", ls, rfl, l4, lg, ?_, ?_⟩
    · exact ⟨.o (Lc _), Imp.l mo, rfl, .inl rfl⟩
    · exact ⟨.v (Tu K _), Imp.T mo, rfl, .inr rfl⟩
  walk_at "pw"
  refine wb_step ?_
  walk_at "pw"
  refine ⟨ls, w9, _, gNq B K, fun gs => Nq B K (gs.map (gNq B K)), rfl, nq_sq, fun gs => nq_sq, fun g => nq_sq, hL, ?_⟩
  walk_at "pw"
  refine WB.nq (i := 3) rfl ?_ ?_
  · dsimp only [List.set]
    refine wb_seq (wb_if ?_)
    walk_at "pw"
    haveI := nl_circ (T := T) (ls := ls) (w := w9)
    refine wb_spoilE (i := 3) rfl (fun S v h => sp_mixed l4 lg h) (.cons (ks_v ka_nl) (.cons ks_un (.cons ks_un (.cons ks_un (.cons (ks_v ka_nl) .nil))))) ?_
    refine WB.of ?_
    walk_at "pw"
    exact q
  · dsimp only [List.set]
    refine wb_seq (wb_if ?_)
    walk_at "pw"
    rw [if_neg (by decide +kernel)]
    refine WB.of ?_
    walk_at "pw"
    refine WB.of ?_
    walk_at "pw"
    exact q
end
end K
namespace K
open PySem PySem.Spec PyProof.Rows L2

abbrev N__law_parts_are : List Str := ["circuit", "layers", "width", "widths", "k", "gates"]
theorem sc__law_parts_are : FnScope N__law_parts_are ["circuit", "layers", "width"] (defScope s__law_parts_are) := ⟨rfl, rfl, rfl, by decide +kernel, rfl, by decide +kernel, by decide +kernel⟩
section
variable {P : Program} {w : World} {K : PySem.W.Frag} {mg : Str → Option Value} {base : Heap}
open Pu
abbrev gtD (g : Gt) : PyData := .tuple [.str (kdS g.m), .int g.l, .int g.r]
def φ_partsare {K : PySem.W.Frag} {mg : Str → Option Value} (T : Txt K mg) : PSp := fun As k _ => ∃ (ls : List (List Gt)) (w : Nat), As = [CircA T ls w, L (lysA K ls), I w] ∧ LOk ls w ∧ k (.v (Bo true))
theorem ok_partsare (T : Txt K mg) : FnOk P w K mg base (L2N.CX P w) 7 T.f__law_parts_are T.fd__law_parts_are ["circuit", "layers", "width"] (toSp (φ_partsare T)) := by
  have G__law_widths := ok_widths (P := P) (w := w) (base := base) T
  have G__law_same := okp_same (P := P) (w := w) (base := base) T 5
  have G_Circuit_depth := ok_depth (P := P) (w := w) (base := base) T
  have G_Circuit_bits := ok_bits (P := P) (w := w) (base := base) T
  have c_Circuit := T.c_Circuit; have a_Circuit_layers := T.a_Circuit_layers; have a_Circuit_width := T.a_Circuit_width; have a_Circuit_widths := T.a_Circuit_widths
  refine okP T.d__law_parts_are.F sc__law_parts_are (by decide) (by intro As k X h; iterate 30 (all_goals first | (obtain ⟨rfl, _⟩ := h; rfl) | (obtain rfl := h; rfl) | (obtain ⟨_, h⟩ := h) | (rcases h with h | h))) fun cdv A0 outer s H E c As kk X hr hX h => ?_
  obtain ⟨ls, w, rfl, hL, q⟩ := h
  have l4 := hL.l4
  have lw := wds_len (ls := ls) (w := w)
  have lg : ∀ gs ∈ ls, gs.length ≤ 4 := fun gs m => by
    obtain ⟨i, hi⟩ := List.getElem?_of_mem m
    have := hL.at_ (wds_at hi)
    omega
  have fz_3 : Frz 3 := ⟨⟩
  refine ⟨_, (pss_cons (ps_set (i := 3) sc__law_parts_are.nd rfl (by first | exact Or.inl rfl | exact Or.inr rfl) (pe_callS G__law_widths (hr.mono (by first | decide | omega)) (by rfl) T.d__law_widths.g T.d__law_widths.F.kp T.d__law_widths.b (fun σ => L2N.passAt (L2N.takes_of rfl rfl rfl rfl) σ) (pa_cons (pv 1) (pa_cons (pv 2) pa_nil))))
      (pss_cons (ps_if (pt_not (pt_val (pe_callS G__law_same (hr.mono (by first | decide | omega)) (by rfl) T.d__law_same.g T.d__law_same.F.kp T.d__law_same.b (fun σ => L2N.passAt (L2N.takes_of rfl rfl rfl rfl) σ) (pa_cons (pe_fld (pv 0) (by rfl)) (pa_cons (pe_callTy Vb.call_tuple (by rfl) T.n_tuple (by decide +kernel) (pa_cons (pe_lc (own := [("gates", 5)]) (g := gName 5) (tt := tYes) rfl sc__law_parts_are.nd (pi_list (pv 1)) (blkOk_by (own := [("gates", 5)]) (N := N__law_parts_are) (sc := defScope s__law_parts_are) (by decide +kernel)) (fun _ _ _ _ _ => (pg_name (i := 5) sc__law_parts_are.nd rfl (by first | exact Or.inl rfl | exact Or.inr rfl))) (fun _ _ _ _ _ => pts_nil) (fun _ _ _ _ _ => (pe_callTy (T := "tuple") (Pu.crK (K := K) (R := Vb.rTup) Vb.call_tuple rfl) (by rfl) T.n_tuple (by decide +kernel) (pa_cons (pv 5) pa_nil)))) pa_nil)) pa_nil))))) (pss_one (ps_ret pe_bl)) pss_nil)
      (pss_cons (ps_if (pt_not (pt_val (pe_callS G__law_same (hr.mono (by first | decide | omega)) (by rfl) T.d__law_same.g T.d__law_same.F.kp T.d__law_same.b (fun σ => L2N.passAt (L2N.takes_of rfl rfl rfl rfl) σ) (pa_cons (pe_tup (pa_cons (pe_fld (pv 0) (by rfl)) (pa_cons (pe_prop (pv 0) T.c_Circuit T.pr_Circuit_depth G_Circuit_depth (hr.mono (by first | decide | omega)) T.d_Circuit_depth.b .nil Vb.pass5 (by rfl)) (pa_cons (pe_fld (pv 0) (by rfl)) pa_nil)))) (pa_cons (pe_tup (pa_cons (pv 2) (pa_cons (pe_callB Vb.call_len (by rfl) T.n_len (by decide +kernel) (pa_cons (pv 1) pa_nil)) (pa_cons (pe_callTy Vb.call_tuple (by rfl) T.n_tuple (by decide +kernel) (pa_cons (pv 3) pa_nil)) pa_nil)))) pa_nil))))) (pss_one (ps_ret pe_bl)) pss_nil)
      (pss_cons (ps_for (L2.passes_of rfl) rfl (pi_range1 rfl T.n_range (pa_cons (pe_callB Vb.call_len (by rfl) T.n_len (by decide +kernel) (pa_cons (pv 3) pa_nil)) pa_nil)) (pg_name (i := 4) sc__law_parts_are.nd rfl (by first | exact Or.inl rfl | exact Or.inr rfl))
        (pss_one (ps_if (pt_not (pt_val (pe_callS G__law_same (hr.mono (by first | decide | omega)) (by rfl) T.d__law_same.g T.d__law_same.F.kp T.d__law_same.b (fun σ => L2N.passAt (L2N.takes_of rfl rfl rfl rfl) σ) (pa_cons (Vb.pe_methP (pv 0) T.c_Circuit T.m_Circuit_bits G_Circuit_bits (hr.mono (by first | decide | omega)) T.d_Circuit_bits.b (fun σ => L2N.passAt (L2N.takes_of rfl rfl rfl rfl) σ) (pa_cons (pv 4) pa_nil)) (pa_cons (pe_op op_fdiv (pe_ix ix_list (pv 3) (pv 4) (fun _ _ => rfl)) pe_int) pa_nil))))) (pss_one (ps_ret pe_bl)) pss_nil)))
      (pss_one (ps_ret pe_bl)))))), ?_⟩
  change Pu.W _ _ [.v (CircA T ls w), .v (L (lysA K ls)), .v (I w), .un, .un, .un] _
  walk_at "pw"
  refine ⟨ls, w, rfl, l4, ?_⟩
  walk_at "pw"
  refine lcM_map (g := fun gs : List Gt => Tu K (gs.map (gtA K))) (by omega) (fun c' i gs hgs => ?_) ?_
  · walk_at "pw"
    exact ⟨rfl, rfl⟩
  walk_at "pw"
  refine use_sm (d := PyData.tuple (ls.map fun gs : List Gt => PyData.tuple (gs.map gtD))) ⟨by rw [List.length_map]; omega, fun d md => ?_⟩ ?_
  · obtain ⟨gs, mg9, rfl⟩ := List.mem_map.mp md
    have := lg gs mg9
    refine ⟨by rw [List.length_map]; omega, fun d md => ?_⟩
    obtain ⟨g, _, rfl⟩ := List.mem_map.mp md
    refine ⟨by show 3 ≤ 1000000; decide, fun d md => ?_⟩
    rcases List.mem_cons.mp md with rfl | md
    · trivial
    rcases List.mem_cons.mp md with rfl | md
    · trivial
    · rw [List.mem_singleton.mp md]
      trivial
  walk_at "pw"
  refine ⟨ls, w, rfl, ?_⟩
  walk_at "pw"
  rw [List.length_map]
  have w4 := hL.w_
  refine use_sm (d := PyData.tuple [.int w, .int ls.length, .tuple ((wds ls w).map fun n : Nat => PyData.int n)]) ⟨by show 3 ≤ 1000000; decide, fun d md => ?_⟩ ?_
  · rcases List.mem_cons.mp md with rfl | md
    · trivial
    rcases List.mem_cons.mp md with rfl | md
    · trivial
    · rw [List.mem_singleton.mp md]
      refine ⟨by rw [List.length_map]; omega, fun d md => ?_⟩
      obtain ⟨n, _, rfl⟩ := List.mem_map.mp md
      trivial
  walk_at "pw"
  rw [List.length_map]
  walk_at "pw"
  refine lpN (fun i env => ∃ (s4 s5 : Sl), env = [.v (CircA T ls w), .v (L (lysA K ls)), .v (I w), .v (L ((wds ls w).map fun n : Nat => I n)), s4, s5]) ⟨_, _, rfl⟩ ?_ ?_
  · rintro i env hi ⟨s4, s5, rfl⟩
    have hi : i < (wds ls w).length := by omega
    have hb : (wds ls w)[i]? = some (wds ls w)[i] := List.getElem?_eq_getElem hi
    generalize (wds ls w)[i] = b at hb
    have b4 := hL.at_ hb
    have aB : atI (wds ls w) (0 + (i : Int)) = some b := at_ i (by omega) hb
    walk_at "pw"
    refine ⟨ls, w, _, .int (0 + (i : Int)), rfl, hL, (show ToD K (I (0 + (i : Int))) (.int (0 + (i : Int))) from inferInstance).d, fun f => ?_, fun j b' ej hj => ?_⟩
    · rw [inRange_int.mpr ⟨by omega, by omega⟩] at f
      cases f
    have ej : j = i := by injection ej with ej; omega
    subst ej
    rw [hb] at hj
    cases hj
    walk_at "pw"
    exact ⟨_, _, rfl⟩
  · rintro env ⟨s4, s5, rfl⟩
    walk_at "pw"
    exact q
end
end K
namespace K
open PySem PySem.Spec PyProof.Rows L2

abbrev N__law_fits : List Str := ["actual", "prime", "layers", "numbers", "turn", "at", "row", "k", "one", "two", "due"]
theorem sc__law_fits : FnScope N__law_fits ["actual", "prime", "layers", "numbers"] (defScope s__law_fits) := ⟨rfl, rfl, rfl, by decide +kernel, rfl, by decide +kernel, by decide +kernel⟩
section
variable {P : Program} {w : World} {K : PySem.W.Frag} {mg : Str → Option Value} {base : Heap}
open Pu
def φ_fits (K : PySem.W.Frag) : PSp := fun As k _ => ∃ (p : Int) (ls : List (List Gt)) (w : Nat) (xs : List Int) (rA : List Int → Asn), As = [L ((vals p ls xs).map rA), I p, L (lysA K ls), L (xs.map I)] ∧ (∀ t, Imp (rA t) (L (t.map I))) ∧ LOk ls w ∧ 2 ≤ p ∧ p ≤ 101 ∧ xs.length = w ∧ (∀ x ∈ xs, 0 ≤ x ∧ x < p) ∧ k (.v (Bo true))
theorem ok_fits (T : Txt K mg) : FnOk P w K mg base (L2N.CX P w) 7 T.f__law_fits T.fd__law_fits ["actual", "prime", "layers", "numbers"] (toSp (φ_fits K)) := by
  have G__law_same := okp_same (P := P) (w := w) (base := base) T 5
  skip
  refine okP T.d__law_fits.F sc__law_fits (by decide) (by intro As k X h; iterate 30 (all_goals first | (obtain ⟨rfl, _⟩ := h; rfl) | (obtain rfl := h; rfl) | (obtain ⟨_, h⟩ := h) | (rcases h with h | h))) fun cdv A0 outer s H E c As kk X hr hX h => ?_
  obtain ⟨p, ls, w9, xs, rA, rfl, hrA, hL, h2, hp, lx, hxs, q⟩ := h
  have l4 := hL.l4
  have lV := vals_len (p := p) (xs := xs) (ls := ls)
  haveI tD : ∀ t, ToD K (rA t) (.list (t.map PyData.int)) := fun t => ⟨fun S v h => (inferInstance : ToD K (L (t.map I)) (.list (t.map PyData.int))).d S v (hrA t S v h)⟩
  have sQ : ∀ t, SqOf K (rA t) (t.map I) := fun t S v h => SqOf.lst (K := K) S v (hrA t S v h)
  have fz_5 : Frz 5 := ⟨⟩
  have fz_6 : Frz 6 := ⟨⟩
  have fz_8 : Frz 8 := ⟨⟩
  have fz_9 : Frz 9 := ⟨⟩
  have fz_10 : Frz 10 := ⟨⟩
  refine ⟨_, (pss_cons (ps_if (PW.pt (pw_or (pt_not (pt_val (pe_callB call_isi (by rfl) T.n_isinstance (by decide +kernel) (pa_cons (pv 0) (pa_cons (pe_bltn (v := .ty "list") (by rfl) T.n_list (by decide +kernel) rfl) pa_nil))))) (pw_or1 (pt_cmpR op_ne (pe_callB Vb.call_len (by rfl) T.n_len (by decide +kernel) (pa_cons (pv 0) pa_nil)) (pe_op op_add (pe_callB Vb.call_len (by rfl) T.n_len (by decide +kernel) (pa_cons (pv 2) pa_nil)) pe_int) (nomark _))))) (pss_one (ps_ret pe_bl)) pss_nil)
      (pss_cons (ps_if (pt_not (pt_val (pe_callS G__law_same (hr.mono (by first | decide | omega)) (by rfl) T.d__law_same.g T.d__law_same.F.kp T.d__law_same.b (fun σ => L2N.passAt (L2N.takes_of rfl rfl rfl rfl) σ) (pa_cons (pe_ix ix_list (pv 0) (pe_callB Vb.call_len (by rfl) T.n_len (by decide +kernel) (pa_cons (pv 2) pa_nil)) (fun _ _ => rfl)) (pa_cons (pe_callTy Vb.call_list (by rfl) T.n_list (by decide +kernel) (pa_cons (pv 3) pa_nil)) pa_nil))))) (pss_one (ps_ret pe_bl)) pss_nil)
      (pss_cons (ps_for (L2.passes_of rfl) rfl (pi_range1 rfl T.n_range (pa_cons (pe_callB Vb.call_len (by rfl) T.n_len (by decide +kernel) (pa_cons (pv 2) pa_nil)) pa_nil)) (pg_name (i := 4) sc__law_fits.nd rfl (by first | exact Or.inl rfl | exact Or.inr rfl))
        (pss_cons (ps_set (i := 5) sc__law_fits.nd rfl (by first | exact Or.inl rfl | exact Or.inr rfl) (pe_op op_sub (pe_op op_sub (pe_callB Vb.call_len (by rfl) T.n_len (by decide +kernel) (pa_cons (pv 2) pa_nil)) pe_int) (pv 4)))
      (pss_cons (ps_set (i := 6) sc__law_fits.nd rfl (by first | exact Or.inl rfl | exact Or.inr rfl) (pe_ix ix_list (pv 0) (pv 5) (fun _ _ => rfl)))
      (pss_cons (ps_if (PW.pt (pw_or (pt_not (pt_val (pe_callB call_isi (by rfl) T.n_isinstance (by decide +kernel) (pa_cons (pv 6) (pa_cons (pe_bltn (v := .ty "list") (by rfl) T.n_list (by decide +kernel) rfl) pa_nil))))) (pw_or1 (pt_cmpR op_ne (pe_callB Vb.call_len (by rfl) T.n_len (by decide +kernel) (pa_cons (pv 6) pa_nil)) (pe_callB Vb.call_len (by rfl) T.n_len (by decide +kernel) (pa_cons (pe_ix ix_list (pv 2) (pv 5) (fun _ _ => rfl)) pa_nil)) (nomark _))))) (pss_one (ps_ret pe_bl)) pss_nil)
      (pss_one (ps_for (L2.passes_of rfl) rfl (pi_range1 rfl T.n_range (pa_cons (pe_callB Vb.call_len (by rfl) T.n_len (by decide +kernel) (pa_cons (pv 6) pa_nil)) pa_nil)) (pg_name (i := 7) sc__law_fits.nd rfl (by first | exact Or.inl rfl | exact Or.inr rfl))
        (pss_cons (ps_set (i := 8) sc__law_fits.nd rfl (by first | exact Or.inl rfl | exact Or.inr rfl) (pe_ix ix_seq (pe_ix ix_list (pv 0) (pe_op op_add (pv 5) pe_int) (fun _ _ => rfl)) (pe_ix ix_tup (pe_ix ix_list (pe_ix ix_list (pv 2) (pv 5) (fun _ _ => rfl)) (pv 7) (fun _ _ => rfl)) pe_int (fun _ _ => rfl)) (fun _ _ => rfl)))
      (pss_cons (ps_set (i := 9) sc__law_fits.nd rfl (by first | exact Or.inl rfl | exact Or.inr rfl) (pe_ix ix_seq (pe_ix ix_list (pv 0) (pe_op op_add (pv 5) pe_int) (fun _ _ => rfl)) (pe_ix ix_tup (pe_ix ix_list (pe_ix ix_list (pv 2) (pv 5) (fun _ _ => rfl)) (pv 7) (fun _ _ => rfl)) pe_int (fun _ _ => rfl)) (fun _ _ => rfl)))
      (pss_cons (ps_set (i := 10) sc__law_fits.nd rfl (by first | exact Or.inl rfl | exact Or.inr rfl) (pe_op op_mul (pv 8) (pv 9)))
      (pss_cons (ps_if (pt_cmpR op_eq (pe_ix ix_tup (pe_ix ix_list (pe_ix ix_list (pv 2) (pv 5) (fun _ _ => rfl)) (pv 7) (fun _ _ => rfl)) pe_int (fun _ _ => rfl)) pe_str (nomark _)) (pss_one (ps_set (i := 10) sc__law_fits.nd rfl (by first | exact Or.inl rfl | exact Or.inr rfl) (pe_op op_add (pv 8) (pv 9)))) pss_nil)
      (pss_one (ps_if (pt_not (pt_val (pe_callS G__law_same (hr.mono (by first | decide | omega)) (by rfl) T.d__law_same.g T.d__law_same.F.kp T.d__law_same.b (fun σ => L2N.passAt (L2N.takes_of rfl rfl rfl rfl) σ) (pa_cons (pe_ix ix_seq (pv 6) (pv 7) (fun _ _ => rfl)) (pa_cons (pe_op op_mod (pe_callTy Vb.call_int (by rfl) T.n_int (by decide +kernel) (pa_cons (pv 10) pa_nil)) (pv 1)) pa_nil))))) (pss_one (ps_ret pe_bl)) pss_nil))))))))))))
      (pss_one (ps_ret pe_bl))))), ?_⟩
  change Pu.W _ _ [.v (L ((vals p ls xs).map rA)), .v (I p), .v (L (lysA K ls)), .v (L (xs.map I)), .un, .un, .un, .un, .un, .un, .un] _
  walk_at "pw"
  have vN : (vals p ls xs)[ls.length]? = some xs := by
    rw [vals_at (Nat.le_refl _), List.drop_length]
    rfl
  have aN : atI (vals p ls xs) ((lysA K ls).length : Int) = some xs := at_ ls.length (by rw [List.length_map]) vN
  have w4 := hL.w_
  rw [List.length_map, List.length_map, decide_eq_true (show ((vals p ls xs).length : Int) = (ls.length : Int) + 1 by omega)]
  walk_at "pw"
  rw [List.length_map]
  walk_at "pw"
  refine lpN (fun i env => ∃ (s4 s5 s6 s7 s8 s9 s10 : Sl), env = [.v (L ((vals p ls xs).map rA)), .v (I p), .v (L (lysA K ls)), .v (L (xs.map I)), s4, s5, s6, s7, s8, s9, s10]) ⟨_, _, _, _, _, _, _, rfl⟩ ?_ ?_
  · rintro i env hi ⟨s4, s5, s6, s7, s8, s9, s10, rfl⟩
    have hi : i < ls.length := by omega
    obtain ⟨j, hj⟩ : ∃ j, j = ls.length - 1 - i := ⟨_, rfl⟩
    have hgs : ls[j]? = some ls[j] := List.getElem?_eq_getElem (by omega)
    generalize ls[j] = gs at hgs
    obtain ⟨b, hb⟩ := wds_get (ls := ls) (w := w9) (i := j + 1) (by omega)
    have hrow := vals_at (p := p) (xs := xs) (ls := ls) (k := j) (by omega)
    have hrow2 := vals_at (p := p) (xs := xs) (ls := ls) (k := j + 1) (by omega)
    have lt := vals_lenAt lx hrow2 hb
    have bt := vals_bd (by omega) hxs _ (List.mem_of_getElem? hrow2)
    rw [vals_step hgs] at hrow
    have gG := hL.gt j gs b hgs hb
    have lg := hL.at_ (wds_at hgs)
    have b4 := hL.at_ hb
    generalize (vals p (ls.drop (j + 1)) xs).headD [] = t at hrow hrow2 lt bt
    have hrow : (vals p ls xs)[j]? = some (layerV p gs t) := hrow
    have lL : (layerV p gs t).length = gs.length := by rw [layerV, List.length_map]
    have s1 := sQ (layerV p gs t)
    have s2 := sQ t
    have ej : ((lysA K ls).length : Int) - 1 - (0 + (i : Int)) = (j : Int) := by rw [List.length_map]; omega
    have a1 : atI (vals p ls xs) (((lysA K ls).length : Int) - 1 - (0 + (i : Int))) = some (layerV p gs t) := at_ j ej hrow
    have a2 : atI ls (((lysA K ls).length : Int) - 1 - (0 + (i : Int))) = some gs := at_ j ej hgs
    have a3 : atI (vals p ls xs) (((lysA K ls).length : Int) - 1 - (0 + (i : Int)) + 1) = some t := at_ (j + 1) (by rw [ej]; rfl) hrow2
    walk_at "pw"
    rw [List.length_map, List.length_map, decide_eq_true (show ((layerV p gs t).length : Int) = (gs.length : Int) by omega)]
    walk_at "pw"
    rw [List.length_map]
    walk_at "pw"
    refine lpN (fun i2 env => ∃ (s7 s8 s9 s10 : Sl), env = [.v (L ((vals p ls xs).map rA)), .v (I p), .v (L (lysA K ls)), .v (L (xs.map I)), .v (I (0 + (i : Int))), .v (I (((lysA K ls).length : Int) - 1 - (0 + (i : Int)))), .v (rA (layerV p gs t)), s7, s8, s9, s10]) ⟨_, _, _, _, rfl⟩ ?_ ?_
    · rintro i2 env hi2 ⟨s7, s8, s9, s10, rfl⟩
      have hi2 : i2 < gs.length := by omega
      have hg : gs[i2]? = some gs[i2] := List.getElem?_eq_getElem hi2
      have hv : (layerV p gs t)[i2]? = some (gval p gs[i2].m (t.getD gs[i2].l 0) (t.getD gs[i2].r 0)) := by rw [layerV, List.getElem?_map, hg]; rfl
      generalize gs[i2] = g at hg hv
      obtain ⟨gl, gr⟩ := gG g (List.mem_of_getElem? hg)
      have gt1 : ∀ j : Nat, j < t.length → t[j]? = some (t.getD j 0) := fun j h => by
        rw [List.getD_eq_getElem?_getD, List.getElem?_eq_getElem h]
        rfl
      have a4 : atI gs (0 + (i2 : Int)) = some g := at_ i2 (by omega) hg
      have a5 : atI t (g.l : Int) = some (t.getD g.l 0) := at_ g.l rfl (gt1 _ (by omega))
      have a6 : atI t (g.r : Int) = some (t.getD g.r 0) := at_ g.r rfl (gt1 _ (by omega))
      have a7 : atI (layerV p gs t) (0 + (i2 : Int)) = some (gval p g.m (t.getD g.l 0) (t.getD g.r 0)) := at_ i2 (by omega) hv
      have b1 := bt _ (List.mem_of_getElem? (gt1 g.l (by omega)))
      have b2 := bt _ (List.mem_of_getElem? (gt1 g.r (by omega)))
      walk_at "pw"
      refine Vb.r_ite (fun c => ?_) (fun c => ?_)
      · have hm : g.m = false := kd_inj.mp (show kdS g.m = kdS false from c)
        rw [show gval p g.m (t.getD g.l 0) (t.getD g.r 0) = (t.getD g.l 0 + t.getD g.r 0) % p by unfold gval; rw [hm]; rfl] at a7
        walk_at "pw"
        exact ⟨_, _, _, _, rfl⟩
      · have hm : g.m = true := by
          cases h : g.m with
          | true => rfl
          | false => exact (c (by rw [h]; rfl)).elim
        rw [show gval p g.m (t.getD g.l 0) (t.getD g.r 0) = t.getD g.l 0 * t.getD g.r 0 % p by unfold gval; rw [hm]; rfl] at a7
        walk_at "pw"
        exact ⟨_, _, _, _, rfl⟩
    · rintro env ⟨s7, s8, s9, s10, rfl⟩
      walk_at "pw"
      exact ⟨_, _, _, _, _, _, _, rfl⟩
  · rintro env ⟨s4, s5, s6, s7, s8, s9, s10, rfl⟩
    walk_at "pw"
    exact q
end
end K
namespace K
open PySem PySem.Spec PyProof.Rows L2

abbrev N__law_values_are : List Str := ["store", "circuit", "prime", "layers", "numbers", "row", "kept", "turn", "actual"]
theorem sc__law_values_are : FnScope N__law_values_are ["store", "circuit", "prime", "layers", "numbers"] (defScope s__law_values_are) := ⟨rfl, rfl, rfl, by decide +kernel, rfl, by decide +kernel, by decide +kernel⟩
section
variable {P : Program} {w : World} {K : PySem.W.Frag} {mg : Str → Option Value} {base : Heap}
open Pu
local macro_rules | `(tactic| walk_at "pE") => `(tactic| ((with_reducible refine' Pu.e_varB ?h_ ?k_); (case h_ => exact rfl)))
theorem sp_vals {p : Int} {B : Hp} {ls : List (List Gt)} {w : Nat} {xs : List Int} (hL : LOk ls w) (lx : xs.length = w) {S : Hp} {v : V} (h : (Nl B ((vals p ls xs).map fun t => Nl B (t.map I))).r S v) : SpA B S v := by
  obtain ⟨a, ys, rfl, s, n, q⟩ := h
  have ly := q.len
  rw [List.length_map, vals_len] at ly
  have l4 := hL.l4
  refine ⟨a, ys, rfl, s, n, by omega, fun x m => ?_⟩
  obtain ⟨i, hi⟩ := List.getElem?_of_mem m
  obtain ⟨A, hA, rA⟩ := q.at_ hi
  rw [List.getElem?_map] at hA
  obtain ⟨t, ht, rfl⟩ := Option.map_eq_some_iff.mp hA
  obtain ⟨b, zs, rfl, g, nb, qz⟩ := rA
  have lz := qz.len
  rw [List.length_map] at lz
  have lt : t.length ≤ 4 := by
    have m1 : t.length ∈ (vals p ls xs).map List.length := List.mem_map.mpr ⟨t, List.mem_of_getElem? ht, rfl⟩
    rw [vals_lens lx] at m1
    have := hL.wd _ m1
    omega
  refine ⟨b, rfl, .inl ⟨fun e => ?_, zs, g, nb, by omega⟩⟩
  subst e
  rw [s] at g
  cases g
  rw [qz.ints] at m
  obtain ⟨k, _, e⟩ := List.mem_map.mp m
  cases e
def φ_valuesare {K : PySem.W.Frag} {mg : Str → Option Value} (T : Txt K mg) : PSp := fun As k _ => ∃ (p : Int) (ls : List (List Gt)) (w : Nat) (xs : List Int), As = [CircA T ls w, I p, L (lysA K ls), L (xs.map I)] ∧ LOk ls w ∧ Vb.Prm p ∧ p ≤ 101 ∧ xs.length = w ∧ (∀ x ∈ xs, 0 ≤ x ∧ x < p) ∧ k (.v (Bo true))
theorem ok_valuesare (T : Txt K mg) : FnOk P w K mg base (L2N.CX P w) 8 T.f__law_values_are T.fd__law_values_are ["store", "circuit", "prime", "layers", "numbers"] (toSpS (φ_valuesare T)) := by
  have G__law_row := okp_row (P := P) (w := w) (base := base) T
  have G__law_copy := ok_copyR (P := P) (w := w) (base := base) T
  have G_circuit_values := ok_cvals (P := P) (w := w) (base := base) T
  have G__law_fits := ok_fits (P := P) (w := w) (base := base) T
  have G__law_same := okp_same (P := P) (w := w) (base := base) T 5
  have G__law_spoil_list := okp_spoilN (P := P) (w := w) (base := base) T
  have c_Circuit := T.c_Circuit; have ki_Circuit := T.ki_Circuit; have nl_Circuit := T.nl_Circuit
  refine okPS T.d__law_values_are.F sc__law_values_are (by decide) (fun As k X h => by obtain ⟨_, _, _, _, rfl, _⟩ := h; rfl) fun cdv A0 outer s H E st c As kk X hr hX h => ?_
  obtain ⟨p, ls, w9, xs, rfl, hL, hp, hp2, lx, hxs, q⟩ := h
  have h2 := hp.1
  refine ⟨_, (pss_cons (ps_set (i := 5) sc__law_values_are.nd rfl (by first | exact Or.inl rfl | exact Or.inr rfl) (pe_callS G__law_row (hr.mono (by first | decide | omega)) (by rfl) T.d__law_row.g T.d__law_row.F.kp T.d__law_row.b (fun σ => L2N.passAt (L2N.takes_of rfl rfl rfl rfl) σ) (pa_cons (pv 0) (pa_cons (pv 4) pa_nil))))
      (pss_cons (ps_set (i := 6) sc__law_values_are.nd rfl (by first | exact Or.inl rfl | exact Or.inr rfl) (pe_callS G__law_copy (hr.mono (by first | decide | omega)) (by rfl) T.d__law_copy.g T.d__law_copy.F.kp T.d__law_copy.b (fun σ => L2N.passAt (L2N.takes_of rfl rfl rfl rfl) σ) (pa_cons (pv 5) pa_nil)))
      (pss_cons (ps_for (L2.passes_of rfl) rfl (pi_range1 rfl T.n_range (pa_cons pe_int pa_nil)) (pg_name (i := 7) sc__law_values_are.nd rfl (by first | exact Or.inl rfl | exact Or.inr rfl))
        (pss_cons (ps_set (i := 8) sc__law_values_are.nd rfl (by first | exact Or.inl rfl | exact Or.inr rfl) (pe_callS G_circuit_values (hr.mono (by first | decide | omega)) (by rfl) T.d_circuit_values.g T.d_circuit_values.F.kp T.d_circuit_values.b (fun σ => L2N.passAt (L2N.takes_of rfl rfl rfl rfl) σ) (pa_cons (pv 1) (pa_cons (pv 2) (pa_cons (pv 5) pa_nil)))))
      (pss_cons (ps_if (PW.pt (pw_or (pt_not (pt_val (pe_callS G__law_fits (hr.mono (by first | decide | omega)) (by rfl) T.d__law_fits.g T.d__law_fits.F.kp T.d__law_fits.b (fun σ => L2N.passAt (L2N.takes_of rfl rfl rfl rfl) σ) (pa_cons (pv 8) (pa_cons (pv 2) (pa_cons (pv 3) (pa_cons (pv 4) pa_nil))))))) (pw_or1 (pt_not (pt_val (pe_callS G__law_same (hr.mono (by first | decide | omega)) (by rfl) T.d__law_same.g T.d__law_same.F.kp T.d__law_same.b (fun σ => L2N.passAt (L2N.takes_of rfl rfl rfl rfl) σ) (pa_cons (pv 5) (pa_cons (pv 6) pa_nil)))))))) (pss_one (ps_ret pe_bl)) pss_nil)
      (pss_one (ps_expr (pe_callS G__law_spoil_list (hr.mono (by first | decide | omega)) (by rfl) T.d__law_spoil_list.g T.d__law_spoil_list.F.kp T.d__law_spoil_list.b (fun σ => L2N.passAt (L2N.takes_of rfl rfl rfl rfl) σ) (pa_cons (pv 8) pa_nil)))))))
      (pss_one (ps_ret pe_bl))))), ?_⟩
  change Pu.W _ _ [.v (Pu.Rf st), .v (CircA T ls w9), .v (I p), .v (L (lysA K ls)), .v (L (xs.map I)), .un, .un, .un, .un] _
  have fz_5 : Frz 5 := ⟨⟩
  have fz_6 : Frz 6 := ⟨⟩
  have w4 := hL.w_
  walk_at "pw"
  refine ⟨_, _, rfl, .lst, .inr ⟨?_, ?_⟩⟩
  · walk_at "pw"
    refine ⟨xs, by omega, .inl ⟨rfl, ?_⟩⟩
    walk_at "pw"
    refine lpN (fun i env => ∃ (s7 s8 : Sl), env = [.v (Rf st), .v (CircA T ls w9), .v (I p), .v (L (lysA K ls)), .v (L (xs.map I)), .v (L (xs.map I)), .v (L (xs.map I)), s7, s8]) ⟨_, _, rfl⟩ ?_ ?_
    · rintro i env hi ⟨s7, s8, rfl⟩
      refine g_name (s_v ?_)
      dsimp only [List.set]
      refine W.base hX fun B hX => ?_
      refine WB0.bb 3 rfl (WB0.bb 4 rfl (WB0.bb 5 rfl (WB0.bb 6 rfl (WB0.of ?_))))
      dsimp only [List.set]
      refine WB.out 3 (WB.out 4 (WB.out 5 (WB.out 6 ?_)))
      refine wb_step (w_set (Pu.E.told (e_callB hX ?_)))
      walk_at "pw"
      refine fun B0 hB0 => ⟨_, by walk_at "ps", ls, w9, I p, (L (xs.map I)), .int p, _, _, rfl, hL, (show ToD K (I p) (.int p) from inferInstance).d, SqOf.lst, dsof_ints, fun f => ?_, fun p' ep _ _ => ?_⟩
      · rw [field_yes hp hp2] at f
        cases f
      cases ep
      refine ⟨fun h => (h (by rw [List.length_map]; exact lx)).elim, fun _ => ⟨fun i B d h1 h3 f _ => ?_, fun _ xs' e => ?_⟩⟩
      · rw [in_of hxs h3] at f
        cases f
      cases ints_inj e
      have hB1 : Same B B0 := hB0
      refine ⟨.o (Lc ((vals p ls xs).map fun t => Nl B (t.map I))), Imp.l (imps_mapN fun t => nl_mono hB1), s_o ?_⟩
      dsimp only [List.set]
      refine wb_step ?_
      walk_at "pw"
      refine ⟨p, ls, w9, xs, fun t => Nl B (t.map I), rfl, fun t => nl_L, hL, h2, hp2, lx, hxs, ?_⟩
      walk_at "pw"
      refine WB.frzN (i := 8) rfl ?_
      dsimp only [List.set]
      haveI := nl_circ (T := T) (ls := ls) (w := w9)
      refine wb_spoilE (i := 8) (env' := [.v (Rf st), .v (CircA T ls w9), .v (I p), .v (Bb (c.at_ B).B (L (lysA K ls))), .v (Bb (c.at_ B).B (L (xs.map I))), .v (Bb (c.at_ B).B (L (xs.map I))), .v (Bb (c.at_ B).B (L (xs.map I))), .un, .un]) rfl (fun S v h => sp_vals hL lx h) (.cons (ks_v ka_nl) (.cons (ks_v ka_nl) (.cons (ks_v ka_nl) (.cons (ks_v ka_bb) (.cons (ks_v ka_bb) (.cons (ks_v ka_bb) (.cons (ks_v ka_bb) (.cons ks_un (.cons ks_un .nil))))))))) ?_
      exact ⟨_, _, rfl, fun S v => bb_l, _, _, rfl, fun S v => bb_l, _, _, rfl, fun S v => bb_l, _, _, rfl, fun S v => bb_l, _, _, rfl⟩
    · rintro env ⟨s7, s8, rfl⟩
      walk_at "pw"
      exact q
  · walk_at "pw"
    refine ⟨xs, by omega, .inr ⟨rfl, ?_⟩⟩
    walk_at "pw"
    refine lpN (fun i env => ∃ (s7 s8 : Sl), env = [.v (Rf st), .v (CircA T ls w9), .v (I p), .v (L (lysA K ls)), .v (L (xs.map I)), .v (Tu K (xs.map I)), .v (Tu K (xs.map I)), s7, s8]) ⟨_, _, rfl⟩ ?_ ?_
    · rintro i env hi ⟨s7, s8, rfl⟩
      refine g_name (s_v ?_)
      dsimp only [List.set]
      refine W.base hX fun B hX => ?_
      refine WB0.bb 3 rfl (WB0.bb 4 rfl (WB0.bb 5 rfl (WB0.bb 6 rfl (WB0.of ?_))))
      dsimp only [List.set]
      refine WB.out 3 (WB.out 4 (WB.out 5 (WB.out 6 ?_)))
      refine wb_step (w_set (Pu.E.told (e_callB hX ?_)))
      walk_at "pw"
      refine fun B0 hB0 => ⟨_, by walk_at "ps", ls, w9, I p, (Tu K (xs.map I)), .int p, _, _, rfl, hL, (show ToD K (I p) (.int p) from inferInstance).d, SqOf.tup, dsof_ints, fun f => ?_, fun p' ep _ _ => ?_⟩
      · rw [field_yes hp hp2] at f
        cases f
      cases ep
      refine ⟨fun h => (h (by rw [List.length_map]; exact lx)).elim, fun _ => ⟨fun i B d h1 h3 f _ => ?_, fun _ xs' e => ?_⟩⟩
      · rw [in_of hxs h3] at f
        cases f
      cases ints_inj e
      have hB1 : Same B B0 := hB0
      refine ⟨.o (Lc ((vals p ls xs).map fun t => Nl B (t.map I))), Imp.l (imps_mapN fun t => nl_mono hB1), s_o ?_⟩
      dsimp only [List.set]
      refine wb_step ?_
      walk_at "pw"
      refine ⟨p, ls, w9, xs, fun t => Nl B (t.map I), rfl, fun t => nl_L, hL, h2, hp2, lx, hxs, ?_⟩
      walk_at "pw"
      refine WB.frzN (i := 8) rfl ?_
      dsimp only [List.set]
      haveI := nl_circ (T := T) (ls := ls) (w := w9)
      refine wb_spoilE (i := 8) (env' := [.v (Rf st), .v (CircA T ls w9), .v (I p), .v (Bb (c.at_ B).B (L (lysA K ls))), .v (Bb (c.at_ B).B (L (xs.map I))), .v (Bb (c.at_ B).B (Tu K (xs.map I))), .v (Bb (c.at_ B).B (Tu K (xs.map I))), .un, .un]) rfl (fun S v h => sp_vals hL lx h) (.cons (ks_v ka_nl) (.cons (ks_v ka_nl) (.cons (ks_v ka_nl) (.cons (ks_v ka_bb) (.cons (ks_v ka_bb) (.cons (ks_v ka_bb) (.cons (ks_v ka_bb) (.cons ks_un (.cons ks_un .nil))))))))) ?_
      exact ⟨_, _, rfl, fun S v => bb_l, _, _, rfl, fun S v => bb_l, _, _, rfl, fun S v => bb_l, _, _, rfl, fun S v => bb_l, _, _, rfl⟩
    · rintro env ⟨s7, s8, rfl⟩
      walk_at "pw"
      exact q
end
end K
namespace K
open PySem PySem.Spec PyProof.Rows L2
abbrev N__law_bits_told : List Str := ["circuit", "layer", "e"]
theorem sc__law_bits_told : FnScope N__law_bits_told ["circuit", "layer"] (defScope s__law_bits_told) := ⟨rfl, rfl, rfl, by decide +kernel, rfl, by decide +kernel, by decide +kernel⟩
section
variable {P : Program} {w : World} {K : PySem.W.Frag} {mg : Str → Option Value} {base : Heap}
open Pu
def φ_bitstold {K : PySem.W.Frag} {mg : Str → Option Value} (T : Txt K mg) : PSp := fun As k _ => ∃ (ls : List (List Gt)) (w : Nat) (A : Asn) (d : PyData), As = [CircA T ls w, A] ∧ LOk ls w ∧ (∀ S v, A.r S v → Dp K S v d) ∧ inRange 0 (ls.length : Int) d = false ∧ k (.o (Lc [Sr (Str.ofString "OutOfRange")]))
theorem ok_bitstold (T : Txt K mg) : FnOk P w K mg base (L2N.CX P w) 4 T.f__law_bits_told T.fd__law_bits_told ["circuit", "layer"] (toSp (φ_bitstold T)) := by
  have G_Circuit_bits := ok_bits (P := P) (w := w) (base := base) T
  have GE__law_class_names := ok_names (P := P) (w := w) (base := base) T
  skip
  refine okP T.d__law_bits_told.F sc__law_bits_told (by decide) (by intro As k X h; iterate 30 (all_goals first | (obtain ⟨rfl, _⟩ := h; rfl) | (obtain rfl := h; rfl) | (obtain ⟨_, h⟩ := h) | (rcases h with h | h))) fun cdv A0 outer s H E c As kk X hr hX h => ?_
  obtain ⟨ls, w, A, d, rfl, hL, hA, f9, q⟩ := h
  refine ⟨_, (pss_cons (Pu.ps_try (Wo := (fun cls d _ H => E cls d H)) rfl rfl sc__law_bits_told.nd (L2N.takes_of rfl rfl rfl rfl) (fun W pn xe tk po => (pss_one (ps_expr (Vb.pe_methP (pv 0) T.c_Circuit T.m_Circuit_bits G_Circuit_bits (hr.mono (by first | decide | omega)) T.d_Circuit_bits.b (fun σ => L2N.passAt tk σ) (pa_cons (pv 1) pa_nil)))))
        (Vb.Clauses.cons (i := 2) rfl rfl ⟨rfl, by decide, Or.inl T.x_TalkError.g⟩
        (fun a oe cls d pn hz hf => (pss_one (ps_ret (Vb.pe_callE hz hf GE__law_class_names (Vb.roomH_mark (hr.mono (by first | decide | omega)) _) rfl T.d__law_class_names.g T.d__law_class_names.F.kp T.d__law_class_names.b (pa_cons (pv 2) pa_nil))))) Vb.Clauses.nil))
      (pss_one (ps_ret (pe_lst (pa_cons pe_str pa_nil))))), ?_⟩
  change Pu.W _ _ [.v (CircA T ls w), .v (A), .un] _
  walk_at "pw"
  refine w_try hX fun c' Wi hW => ?_
  walk_at "pw"
  refine ⟨ls, w, A, d, rfl, hL, hA, fun _ => ?_, fun j b ed hj => ?_⟩
  · refine hs_sub T.xk_TalkError T.xs_OutOfRange_TalkError fun a d => ?_
    walk_at "pw"
    refine ⟨[], [Str.ofString "OutOfRange"], rfl, by unfold NameOf; simp, ?_⟩
    walk_at "pw"
    exact q
  · have lj := (List.getElem?_eq_some_iff.mp hj).1
    rw [wds_len] at lj
    rw [ed, inRange_int.mpr ⟨by omega, by omega⟩] at f9
    cases f9
end
end K
namespace K
open PySem PySem.Spec PyProof.Rows L2
abbrev N__law_told : List Str := ["circuit", "prime", "numbers", "value", "e"]
theorem sc__law_told : FnScope N__law_told ["circuit", "prime", "numbers", "value"] (defScope s__law_told) := ⟨rfl, rfl, rfl, by decide +kernel, rfl, by decide +kernel, by decide +kernel⟩
section
variable {P : Program} {w : World} {K : PySem.W.Frag} {mg : Str → Option Value} {base : Heap}
open Pu
local macro_rules | `(tactic| walk_at "pE") => `(tactic| ((with_reducible refine' e_callB ?h_ ?k_); (case h_ => assumption)))
def φ_told {K : PySem.W.Frag} {mg : Str → Option Value} (T : Txt K mg) : PSp := fun As k _ => ∃ (ls : List (List Gt)) (w : Nat) (P C V : Asn) (dp dv : PyData) (Cs : List Asn) (es : List PyData) (c : Str), As = [CircA T ls w, P, C, V] ∧ LOk ls w ∧ (∀ S v, P.r S v → Dp K S v dp) ∧ SqOf K C Cs ∧ DsOf K Cs es ∧ (∀ S v, V.r S v → Dp K S v dv) ∧ Vb.DOk 4 dv ∧
  (c = Str.ofString "NotPrime" ∧ field dp = false ∧ dp = dv ∨ ∃ p : Int, dp = .int p ∧ Vb.Prm p ∧ p ≤ 101 ∧ PErr p w es c dv) ∧ k (.o (Lc [Sr c]))
theorem ok_told (T : Txt K mg) : FnOk P w K mg base (L2N.CX P w) 7 T.f__law_told T.fd__law_told ["circuit", "prime", "numbers", "value"] (toSp (φ_told T)) := by
  have G_circuit_values := ok_cvals (P := P) (w := w) (base := base) T
  have GE__law_class_names := ok_names (P := P) (w := w) (base := base) T
  have GH__law_same := okhp_same (P := P) (w := w) (base := base) T 5
  skip
  refine okP T.d__law_told.F sc__law_told (by decide) (by intro As k X h; iterate 30 (all_goals first | (obtain ⟨rfl, _⟩ := h; rfl) | (obtain rfl := h; rfl) | (obtain ⟨_, h⟩ := h) | (rcases h with h | h))) fun cdv A0 outer s H E c As kk X hr hX h => ?_
  obtain ⟨ls, w9, P', C, V, dp, dv, Cs, es, cn, rfl, hL, hP, hC, he, hV, dok, hw, q⟩ := h
  refine ⟨_, (pss_cons (Pu.ps_try (Wo := (fun cls d _ H => E cls d H)) rfl rfl sc__law_told.nd (L2N.takes_of rfl rfl rfl rfl) (fun W pn xe tk po => (pss_one (ps_expr (pe_callS G_circuit_values (hr.mono (by first | decide | omega)) (by rfl) T.d_circuit_values.g T.d_circuit_values.F.kp T.d_circuit_values.b (fun σ => L2N.passAt tk σ) (pa_cons (pv 0) (pa_cons (pv 1) (pa_cons (pv 2) pa_nil)))))))
        (Vb.Clauses.cons (i := 4) rfl rfl ⟨rfl, by decide, Or.inl T.i_NotPrime.g⟩
        (fun a oe cls d pn hz hf => (pss_one (ps_ret (pe_op op_cat (Vb.pe_callE hz hf GE__law_class_names (Vb.roomH_mark (hr.mono (by first | decide | omega)) _) rfl T.d__law_class_names.g T.d__law_class_names.F.kp T.d__law_class_names.b (pa_cons (pv 4) pa_nil)) (pe_op op_rep (pe_lst (pa_cons pe_str pa_nil)) (pe_callTy Vb.call_int (by rfl) T.n_int (by decide +kernel) (pa_cons (pe_not (L2H.pe_callH GH__law_same (Vb.roomH_mark (hr.mono (by first | decide | omega)) _) (Vb.hotN hz hf) rfl T.d__law_same.g T.d__law_same.F.kp T.d__law_same.b (fun σ => Vb.passH) (pa_cons (pe_xf T.xk_NotPrime.xf T.i_NotPrime.noN hz.zc hf (pv 4)) (pa_cons (pv 3) pa_nil)))) pa_nil))))))) (Vb.Clauses.cons (i := 4) rfl rfl ⟨rfl, by decide, Or.inl T.i_NotInField.g⟩
        (fun a oe cls d pn hz hf => (pss_one (ps_ret (pe_op op_cat (Vb.pe_callE hz hf GE__law_class_names (Vb.roomH_mark (hr.mono (by first | decide | omega)) _) rfl T.d__law_class_names.g T.d__law_class_names.F.kp T.d__law_class_names.b (pa_cons (pv 4) pa_nil)) (pe_op op_rep (pe_lst (pa_cons pe_str pa_nil)) (pe_callTy Vb.call_int (by rfl) T.n_int (by decide +kernel) (pa_cons (pe_not (L2H.pe_callH GH__law_same (Vb.roomH_mark (hr.mono (by first | decide | omega)) _) (Vb.hotN hz hf) rfl T.d__law_same.g T.d__law_same.F.kp T.d__law_same.b (fun σ => Vb.passH) (pa_cons (pe_xf T.xk_NotInField.xf T.i_NotInField.noN hz.zc hf (pv 4)) (pa_cons (pv 3) pa_nil)))) pa_nil))))))) (Vb.Clauses.cons (i := 4) rfl rfl ⟨rfl, by decide, Or.inl T.x_TalkError.g⟩
        (fun a oe cls d pn hz hf => (pss_one (ps_ret (Vb.pe_callE hz hf GE__law_class_names (Vb.roomH_mark (hr.mono (by first | decide | omega)) _) rfl T.d__law_class_names.g T.d__law_class_names.F.kp T.d__law_class_names.b (pa_cons (pv 4) pa_nil))))) Vb.Clauses.nil))))
      (pss_one (ps_ret (pe_lst (pa_cons pe_str pa_nil))))), ?_⟩
  change Pu.W _ _ [.v (CircA T ls w9), .v (P'), .v (C), .v (V), .un] _
  walk_at "pw"
  haveI : ToD K P' dp := ⟨hP⟩
  haveI : ToD K V dv := ⟨hV⟩
  refine w_try hX fun c' Wi hW => ?_
  walk_at "pw"
  refine fun B0 hB0 => ⟨_, by walk_at "ps", ls, w9, P', C, dp, Cs, es, rfl, hL, hP, hC, he, fun f => ?_, fun p ep hp hp2 => ?_⟩
  · rcases hw with ⟨rfl, f9, rfl⟩ | ⟨p, rfl, hp, hp2, _⟩
    · refine hs_as T.xk_NotPrime fun a d => ?_
      walk_at "pw"
      refine ⟨[(Str.ofString "value", P')], [Str.ofString "NotPrime"], rfl, by unfold NameOf; simp, ?_⟩
      walk_at "pw"
      refine e_callS ExOk.none ?_
      walk_at "pw"
      refine use_sm (d := dp) (Vb.dok_up _ _ dok) ?_
      walk_at "pw"
      exact q
    · rw [field_yes hp hp2] at f
      cases f
  · subst ep
    rcases hw with ⟨rfl, f9, rfl⟩ | ⟨p', ep, _, _, hw⟩
    · rw [field_yes hp hp2] at f9
      cases f9
    cases ep
    refine ⟨fun h => ?_, fun lz => ⟨fun i B d h1 h3 f hj => ?_, fun oz xs _ => ?_⟩⟩
    · obtain rfl : cn = Str.ofString "WrongPlaces" := by
        rcases hw with ⟨_, e⟩ | ⟨e, _⟩
        · exact e
        · exact (h e).elim
      refine hs_no T.xk_NotPrime T.xs_WrongPlaces_NotPrime (hs_no T.xk_NotInField T.xs_WrongPlaces_NotInField (hs_sub T.xk_TalkError T.xs_WrongPlaces_TalkError fun a d => ?_))
      walk_at "pw"
      refine ⟨[], [Str.ofString "WrongPlaces"], rfl, by unfold NameOf; simp, ?_⟩
      walk_at "pw"
      exact q
    · obtain ⟨rfl, hB9⟩ : cn = Str.ofString "NotInField" ∧ BadAt p es dv := by
        rcases hw with ⟨e, _⟩ | ⟨_, e, e2⟩
        · exact (e lz).elim
        · exact ⟨e, e2⟩
      have hB := he.2 i B d h1 h3
      rw [bad_one hB9 h3 f hj] at hB
      haveI : ToD K B dv := ⟨hB⟩
      refine hs_no T.xk_NotPrime T.xs_NotInField_NotPrime (hs_as T.xk_NotInField fun a d => ?_)
      walk_at "pw"
      refine ⟨[(Str.ofString "value", B)], [Str.ofString "NotInField"], rfl, by unfold NameOf; simp, ?_⟩
      walk_at "pw"
      refine e_callS ExOk.none ?_
      walk_at "pw"
      refine use_sm (d := dv) (Vb.dok_up _ _ dok) ?_
      walk_at "pw"
      exact q
    · rcases hw with ⟨e, _⟩ | ⟨_, _, e⟩
      · exact (e lz).elim
      · exact (good_bad e oz).elim
end
end K
namespace K
open PySem PySem.Spec PyProof.Rows L2

abbrev N__law_refused : List Str := ["store", "circuit", "prime", "numbers", "depth", "bad", "bent", "longer", "short"]
theorem sc__law_refused : FnScope N__law_refused ["store", "circuit", "prime", "numbers", "depth"] (defScope s__law_refused) := ⟨rfl, rfl, rfl, by decide +kernel, rfl, by decide +kernel, by decide +kernel⟩
section
variable {P : Program} {w : World} {K : PySem.W.Frag} {mg : Str → Option Value} {base : Heap}
open Pu
def φ_refused {K : PySem.W.Frag} {mg : Str → Option Value} (T : Txt K mg) : PSp := fun As k _ => ∃ (ls : List (List Gt)) (w : Nat) (p : Int) (xs : List Int), As = [CircA T ls w, I p, L (xs.map I), I ls.length] ∧ LOk ls w ∧ Vb.Prm p ∧ p ≤ 101 ∧ xs.length = w ∧ (∀ x ∈ xs, 0 ≤ x ∧ x < p) ∧ k (.v (Bo true))
theorem ok_refused (T : Txt K mg) : FnOk P w K mg base (L2N.CX P w) 8 T.f__law_refused T.fd__law_refused ["store", "circuit", "prime", "numbers", "depth"] (toSpS (φ_refused T)) := by
  have G__law_bad_prime := okp_badprime (P := P) (w := w) (base := base) T
  have G__law_bad_row := okp_badrow (P := P) (w := w) (base := base) T
  have G__law_pick := okp_pick (P := P) (w := w) (base := base) T
  have G__law_told := ok_told (P := P) (w := w) (base := base) T
  have G__law_bits_told := ok_bitstold (P := P) (w := w) (base := base) T
  have G__law_row := okp_row (P := P) (w := w) (base := base) T
  have G__law_bad_integer := okp_badinteger (P := P) (w := w) (base := base) T
  skip
  refine okPS T.d__law_refused.F sc__law_refused (by decide) (by intro As k X h; iterate 30 (all_goals first | (obtain ⟨rfl, _⟩ := h; rfl) | (obtain rfl := h; rfl) | (obtain ⟨_, h⟩ := h) | (rcases h with h | h))) fun cdv A0 outer s H E st c As kk X hr hX h => ?_
  obtain ⟨ls, w9, p, xs, rfl, hL, hp, hp2, lx, hxs, q⟩ := h
  have h2 := hp.1
  have w4 := hL.w_
  have l4 := hL.l4
  have dP := (show ToD K (I p) (.int p) from inferInstance).d
  have dN9 := (show ToD K No .none from inferInstance).d
  haveI sko : SkD 8 (.str (Str.ofString "OutOfRange")) := ⟨by show PyData.strOk _ = true; decide +kernel⟩
  haveI skp : SkD 8 (.str (Str.ofString "NotPrime")) := ⟨by show PyData.strOk _ = true; decide +kernel⟩
  haveI skf : SkD 8 (.str (Str.ofString "NotInField")) := ⟨by show PyData.strOk _ = true; decide +kernel⟩
  haveI skw : SkD 8 (.str (Str.ofString "WrongPlaces")) := ⟨by show PyData.strOk _ = true; decide +kernel⟩
  have fz_5 : Frz 5 := ⟨⟩
  have fz_6 : Frz 6 := ⟨⟩
  have fz_7 : Frz 7 := ⟨⟩
  have fz_8 : Frz 8 := ⟨⟩
  refine ⟨_, (pss_cons (ps_set (i := 5) sc__law_refused.nd rfl (by first | exact Or.inl rfl | exact Or.inr rfl) (pe_callS G__law_bad_prime (hr.mono (by first | decide | omega)) (by rfl) T.d__law_bad_prime.g T.d__law_bad_prime.F.kp T.d__law_bad_prime.b (fun σ => L2N.passAt (L2N.takes_of rfl rfl rfl rfl) σ) (pa_cons (pv 0) pa_nil)))
      (pss_cons (ps_set (i := 6) sc__law_refused.nd rfl (by first | exact Or.inl rfl | exact Or.inr rfl) (pe_callS G__law_bad_row (hr.mono (by first | decide | omega)) (by rfl) T.d__law_bad_row.g T.d__law_bad_row.F.kp T.d__law_bad_row.b (fun σ => L2N.passAt (L2N.takes_of rfl rfl rfl rfl) σ) (pa_cons (pv 0) (pa_cons (pv 2) (pa_cons (pv 3) pa_nil)))))
      (pss_cons (ps_set (i := 7) sc__law_refused.nd rfl (by first | exact Or.inl rfl | exact Or.inr rfl) (pe_op op_cat (pe_callTy Vb.call_list (by rfl) T.n_list (by decide +kernel) (pa_cons (pe_ix ix_tup (pv 6) pe_int (fun _ _ => rfl)) pa_nil)) (pe_lst (pa_cons (pe_callS G__law_pick (hr.mono (by first | decide | omega)) (by rfl) T.d__law_pick.g T.d__law_pick.F.kp T.d__law_pick.b (fun σ => L2N.passAt (L2N.takes_of rfl rfl rfl rfl) σ) (pa_cons (pv 0) (pa_cons (pe_lst (pa_cons pe_int (pa_cons (pe_un un_neg pe_int) pa_nil))) pa_nil))) pa_nil))))
      (pss_cons (ps_if (pt_cmpR (Pu.op_neDK (K := K) rfl hr.units) (pe_callS G__law_told (hr.mono (by first | decide | omega)) (by rfl) T.d__law_told.g T.d__law_told.F.kp T.d__law_told.b (fun σ => L2N.passAt (L2N.takes_of rfl rfl rfl rfl) σ) (pa_cons (pv 1) (pa_cons (pv 5) (pa_cons (pe_callS G__law_pick (hr.mono (by first | decide | omega)) (by rfl) T.d__law_pick.g T.d__law_pick.F.kp T.d__law_pick.b (fun σ => L2N.passAt (L2N.takes_of rfl rfl rfl rfl) σ) (pa_cons (pv 0) (pa_cons (pe_lst (pa_cons (pv 3) (pa_cons (pe_ix ix_tup (pv 6) pe_int (fun _ _ => rfl)) (pa_cons (pv 7) pa_nil)))) pa_nil))) (pa_cons (pv 5) pa_nil))))) (pe_lst (pa_cons pe_str pa_nil)) (nomark _)) (pss_one (ps_ret pe_bl)) pss_nil)
      (pss_cons (ps_if (pt_cmpR (Pu.op_neDK (K := K) rfl hr.units) (pe_callS G__law_told (hr.mono (by first | decide | omega)) (by rfl) T.d__law_told.g T.d__law_told.F.kp T.d__law_told.b (fun σ => L2N.passAt (L2N.takes_of rfl rfl rfl rfl) σ) (pa_cons (pv 1) (pa_cons (pv 2) (pa_cons (pe_callS G__law_row (hr.mono (by first | decide | omega)) (by rfl) T.d__law_row.g T.d__law_row.F.kp T.d__law_row.b (fun σ => L2N.passAt (L2N.takes_of rfl rfl rfl rfl) σ) (pa_cons (pv 0) (pa_cons (pe_ix ix_tup (pv 6) pe_int (fun _ _ => rfl)) pa_nil))) (pa_cons (pe_ix ix_tup (pv 6) pe_int (fun _ _ => rfl)) pa_nil))))) (pe_lst (pa_cons pe_str pa_nil)) (nomark _)) (pss_one (ps_ret pe_bl)) pss_nil)
      (pss_cons (ps_set (i := 8) sc__law_refused.nd rfl (by first | exact Or.inl rfl | exact Or.inr rfl) (pe_callS G__law_pick (hr.mono (by first | decide | omega)) (by rfl) T.d__law_pick.g T.d__law_pick.F.kp T.d__law_pick.b (fun σ => L2N.passAt (L2N.takes_of rfl rfl rfl rfl) σ) (pa_cons (pv 0) (pa_cons (pe_lst (pa_cons (pv 7) (pa_cons (pe_slice sl_list (pe_ix ix_tup (pv 6) pe_int (fun _ _ => rfl)) (po_some pe_int) po_none) (pa_cons (pe_slice sl_list (pv 3) (po_some pe_int) po_none) (pa_cons (pe_op op_cat (pv 3) (pe_lst (pa_cons pe_int pa_nil))) (pa_cons (pe_op op_cat (pv 3) (pv 3)) pa_nil)))))) pa_nil))))
      (pss_cons (ps_if (pt_cmpR (Pu.op_neDK (K := K) rfl hr.units) (pe_callS G__law_told (hr.mono (by first | decide | omega)) (by rfl) T.d__law_told.g T.d__law_told.F.kp T.d__law_told.b (fun σ => L2N.passAt (L2N.takes_of rfl rfl rfl rfl) σ) (pa_cons (pv 1) (pa_cons (pv 2) (pa_cons (pe_callS G__law_row (hr.mono (by first | decide | omega)) (by rfl) T.d__law_row.g T.d__law_row.F.kp T.d__law_row.b (fun σ => L2N.passAt (L2N.takes_of rfl rfl rfl rfl) σ) (pa_cons (pv 0) (pa_cons (pv 8) pa_nil))) (pa_cons pe_non pa_nil))))) (pe_lst (pa_cons pe_str pa_nil)) (nomark _)) (pss_one (ps_ret pe_bl)) pss_nil)
      (pss_one (ps_ret (pe_cmpR (Pu.op_eqDK (K := K) rfl hr.units) (pe_callS G__law_bits_told (hr.mono (by first | decide | omega)) (by rfl) T.d__law_bits_told.g T.d__law_bits_told.F.kp T.d__law_bits_told.b (fun σ => L2N.passAt (L2N.takes_of rfl rfl rfl rfl) σ) (pa_cons (pv 1) (pa_cons (pe_callS G__law_bad_integer (hr.mono (by first | decide | omega)) (by rfl) T.d__law_bad_integer.g T.d__law_bad_integer.F.kp T.d__law_bad_integer.b (fun σ => L2N.passAt (L2N.takes_of rfl rfl rfl rfl) σ) (pa_cons (pv 0) (pa_cons pe_int (pa_cons (pv 4) pa_nil)))) pa_nil))) (pe_lst (pa_cons pe_str pa_nil)) (nomark _))))))))))), ?_⟩
  change Pu.W _ _ [.v (Pu.Rf st), .v (CircA T ls w9), .v (I p), .v (L (xs.map I)), .v (I ls.length), .un, .un, .un, .un] _
  walk_at "pw"
  refine ⟨rfl, fun db fb okb lfb => ?_⟩
  walk_at "pw"
  refine ⟨p, _, xs, rfl, by omega, by omega, .lst, fun ds i1 d1 l9 hi1 f1 ok1 lf1 hj1 all1 => ?_⟩
  have hba : BadAt p ds d1 := ⟨i1, hi1, f1, fun j e h he => by
    obtain ⟨x9, x1, x2⟩ := hj1 j h
    rw [he] at x2
    cases x2
    exact inField_int.mpr (hxs x9 (List.mem_of_getElem? x1))⟩
  walk_at "pw"
  refine ⟨_, _, rfl, .lst, by simp, by show 2 < 1000000; decide, fun i B hB => ?_⟩
  obtain ⟨d9, hd9⟩ : ∃ d, ∀ S v, B.r S v → Dp K S v d := by
    rcases List.mem_cons.mp (List.mem_of_getElem? hB) with rfl | mB
    · exact ⟨_, (show ToD K (I 0) (.int 0) from inferInstance).d⟩
    · rw [List.mem_singleton.mp mB]
      exact ⟨_, (show ToD K (I (-1)) (.int (-1)) from inferInstance).d⟩
  clear hB
  have hEL : DsOf K (ds.map (D K) ++ [B]) (ds ++ [d9]) := by
    have := dsof_D (K := K) (ds := ds)
    refine ⟨by rw [List.length_append, List.length_append, this.1]; rfl, fun i C e h1 h3 => ?_⟩
    by_cases z : i < ds.length
    · rw [List.getElem?_append_left (by rw [List.length_map]; exact z)] at h1
      rw [List.getElem?_append_left z] at h3
      exact this.2 i C e h1 h3
    · rw [List.getElem?_append_right (by rw [List.length_map]; omega), List.length_map] at h1
      rw [List.getElem?_append_right (by omega)] at h3
      have li := (List.getElem?_eq_some_iff.mp h1).1
      have e0 : i - ds.length = 0 := by
        have : i - ds.length < 1 := li
        omega
      rw [e0] at h1 h3
      cases h1
      cases h3
      exact hd9
  walk_at "pw"
  refine ⟨_, _, rfl, .lst, by simp, by show 3 < 1000000; decide, fun i B2 hB2 => ?_⟩
  obtain ⟨Cs2, es2, rfl, ds2⟩ : ∃ Cs2 es2, B2 = L Cs2 ∧ DsOf K Cs2 es2 := by
    rcases List.mem_cons.mp (List.mem_of_getElem? hB2) with rfl | mB
    · exact ⟨_, _, rfl, dsof_ints⟩
    rcases List.mem_cons.mp mB with rfl | mB
    · exact ⟨_, _, rfl, dsof_D⟩
    · rw [List.mem_singleton.mp mB]
      exact ⟨_, _, rfl, hEL⟩
  clear hB2
  walk_at "pw"
  refine ⟨ls, w9, D K db, L Cs2, D K db, db, db, Cs2, es2, Str.ofString "NotPrime", rfl, hL, fun _ _ h => h, .lst, ds2, fun _ _ h => h, okb, .inl ⟨rfl, fb, rfl⟩, ?_⟩
  walk_at "pw"
  refine ⟨_, _, rfl, .lst, .inl ?_⟩
  walk_at "pw"
  refine ⟨ls, w9, I p, _, D K d1, .int p, d1, _, ds, Str.ofString "NotInField", rfl, hL, dP, .seq, dsof_D, fun _ _ h => h, ok1, .inr ⟨p, rfl, hp, hp2, .inr ⟨by omega, rfl, hba⟩⟩, ?_⟩
  walk_at "pw"
  refine ⟨_, _, rfl, .lst, by simp, by show 5 < 1000000; decide, fun i B3 hB3 => ?_⟩
  obtain ⟨Cs3, es3, rfl, ds3, l3⟩ : ∃ Cs3 es3, B3 = L Cs3 ∧ DsOf K Cs3 es3 ∧ es3.length ≠ w9 := by
    rcases List.mem_cons.mp (List.mem_of_getElem? hB3) with rfl | mB
    · exact ⟨_, _, rfl, hEL, by rw [List.length_append]; show ds.length + 1 ≠ w9; omega⟩
    rcases List.mem_cons.mp mB with rfl | mB
    · rw [show cutA (ds.map (D K)) (some 1) none = (ds.drop 1).map (D K) by rw [cutA_map, show (some 1 : Option Int) = some ((1 : Nat) : Int) from rfl, cutA_drop]]
      exact ⟨_, _, rfl, dsof_D, by rw [List.length_drop]; omega⟩
    rcases List.mem_cons.mp mB with rfl | mB
    · rw [show cutA (xs.map I) (some 1) none = (xs.drop 1).map I by rw [cutA_map, show (some 1 : Option Int) = some ((1 : Nat) : Int) from rfl, cutA_drop]]
      exact ⟨_, _, rfl, dsof_ints, by rw [List.length_map, List.length_drop]; omega⟩
    rcases List.mem_cons.mp mB with rfl | mB
    · exact ⟨_, _, rfl, by rw [show xs.map I ++ [Vl (.int 0)] = (xs ++ [0]).map I by rw [List.map_append]; rfl]; exact dsof_ints, by rw [List.length_map, List.length_append]; show xs.length + 1 ≠ w9; omega⟩
    · rw [List.mem_singleton.mp mB]
      exact ⟨_, _, rfl, by rw [← List.map_append]; exact dsof_ints, by rw [List.length_map, List.length_append]; omega⟩
  clear hB3
  walk_at "pw"
  refine ⟨_, _, rfl, .lst, .inl ?_⟩
  walk_at "pw"
  refine ⟨ls, w9, I p, _, No, .int p, .none, _, es3, Str.ofString "WrongPlaces", rfl, hL, dP, .seq, ds3, dN9, trivial, .inr ⟨p, rfl, hp, hp2, .inl ⟨l3, rfl⟩⟩, ?_⟩
  walk_at "pw"
  refine ⟨0, ls.length, rfl, by omega, fun dw fw okw lfw => ?_⟩
  walk_at "pw"
  refine ⟨ls, w9, D K dw, dw, rfl, hL, fun _ _ h => h, fw, ?_⟩
  walk_at "pw"
  exact q
end
end K
namespace K
open PySem PySem.Spec PyProof.Rows L2
abbrev N_law : List Str := ["script", "store", "prime", "parts", "numbers", "circuit", "second", "field", "other", "row"]
theorem sc_law : FnScope N_law ["script"] (defScope s_law) := ⟨rfl, rfl, rfl, by decide +kernel, rfl, by decide +kernel, by decide +kernel⟩
section
variable {P : Program} {w : World} {K : PySem.W.Frag} {mg : Str → Option Value} {base : Heap}
open Pu
def sp_law (K : PySem.W.Frag) : Sp := fun vs H Q _ => ∃ (a : Addr) (ns : List Int), vs = [.ref a] ∧ SqL K H a (ns.map V.int) ∧ ns.length ≤ 63 ∧ ∀ H' : Hp, Q (.bl true) H'
theorem ok_law (T : Txt K mg) : FnOk P w K mg base (L2N.CX P w) 10 T.f_law T.fd_law ["script"] (sp_law K) := by
  have G__law_store := ok_store (P := P) (w := w) (base := base) T
  have G__law_prime := okp_prime (P := P) (w := w) (base := base) T
  have G__law_circuit := ok_circuit (P := P) (w := w) (base := base) T
  have G__law_numbers := okp_numbers (P := P) (w := w) (base := base) T
  have G__law_made := ok_made (P := P) (w := w) (base := base) T
  have G__law_values_are := ok_valuesare (P := P) (w := w) (base := base) T
  have G__law_edge := okp_edge (P := P) (w := w) (base := base) T
  have G__law_refused := ok_refused (P := P) (w := w) (base := base) T
  have G__law_take := okp_take (P := P) (w := w) (base := base) T
  have G__law_parts_are := ok_partsare (P := P) (w := w) (base := base) T
  skip
  refine okLaw (stsp := sp_store K) T.d_law.F sc_law (by decide) (fun a ns H Q E ha hn q => ⟨a, ns, rfl, ha, hn, fun st H' n1 e1 S1 => q st H' n1 e1 S1⟩) fun cdv A0 outer s H E hr => ⟨_, _, (pss_cons (ps_set (i := 1) sc_law.nd rfl (by first | exact Or.inl rfl | exact Or.inr rfl) (pe_callS G__law_store (hr.mono (by first | decide | omega)) (by rfl) T.d__law_store.g T.d__law_store.F.kp T.d__law_store.b (fun σ => L2N.passAt (L2N.takes_of rfl rfl rfl rfl) σ) (pa_cons (pv 0) pa_nil)))
      (pss_cons (ps_set (i := 2) sc_law.nd rfl (by first | exact Or.inl rfl | exact Or.inr rfl) (pe_callS G__law_prime (hr.mono (by first | decide | omega)) (by rfl) T.d__law_prime.g T.d__law_prime.F.kp T.d__law_prime.b (fun σ => L2N.passAt (L2N.takes_of rfl rfl rfl rfl) σ) (pa_cons (pv 1) pa_nil)))
      (pss_cons (ps_set (i := 3) sc_law.nd rfl (by first | exact Or.inl rfl | exact Or.inr rfl) (pe_callS G__law_circuit (hr.mono (by first | decide | omega)) (by rfl) T.d__law_circuit.g T.d__law_circuit.F.kp T.d__law_circuit.b (fun σ => L2N.passAt (L2N.takes_of rfl rfl rfl rfl) σ) (pa_cons (pv 1) (pa_cons (pe_callS G__law_edge (hr.mono (by first | decide | omega)) (by rfl) T.d__law_edge.g T.d__law_edge.F.kp T.d__law_edge.b (fun σ => L2N.passAt (L2N.takes_of rfl rfl rfl rfl) σ) (pa_cons (pv 1) (pa_cons pe_int (pa_cons pe_int pa_nil)))) (pa_cons (pe_ix ix_list (pe_lst (pa_cons pe_int (pa_cons pe_int (pa_cons pe_int (pa_cons pe_int pa_nil))))) (pe_callS G__law_take (hr.mono (by first | decide | omega)) (by rfl) T.d__law_take.g T.d__law_take.F.kp T.d__law_take.b (fun σ => L2N.passAt (L2N.takes_of rfl rfl rfl rfl) σ) (pa_cons (pv 1) (pa_cons pe_int pa_nil))) (fun _ _ => rfl)) pa_nil)))))
      (pss_cons (ps_set (i := 4) sc_law.nd rfl (by first | exact Or.inl rfl | exact Or.inr rfl) (pe_callS G__law_numbers (hr.mono (by first | decide | omega)) (by rfl) T.d__law_numbers.g T.d__law_numbers.F.kp T.d__law_numbers.b (fun σ => L2N.passAt (L2N.takes_of rfl rfl rfl rfl) σ) (pa_cons (pv 1) (pa_cons (pv 2) (pa_cons (pe_ix ix_tup (pv 3) pe_int (fun _ _ => rfl)) pa_nil)))))
      (pss_cons (ps_set (i := 5) sc_law.nd rfl (by first | exact Or.inl rfl | exact Or.inr rfl) (pe_callS G__law_made (hr.mono (by first | decide | omega)) (by rfl) T.d__law_made.g T.d__law_made.F.kp T.d__law_made.b (fun σ => L2N.passAt (L2N.takes_of rfl rfl rfl rfl) σ) (pa_cons (pv 1) (pa_cons (pe_ix ix_tup (pv 3) pe_int (fun _ _ => rfl)) (pa_cons (pe_ix ix_tup (pv 3) pe_int (fun _ _ => rfl)) pa_nil)))))
      (pss_cons (ps_set (i := 6) sc_law.nd rfl (by first | exact Or.inl rfl | exact Or.inr rfl) (pe_callS G__law_circuit (hr.mono (by first | decide | omega)) (by rfl) T.d__law_circuit.g T.d__law_circuit.F.kp T.d__law_circuit.b (fun σ => L2N.passAt (L2N.takes_of rfl rfl rfl rfl) σ) (pa_cons (pv 1) (pa_cons (pe_callS G__law_edge (hr.mono (by first | decide | omega)) (by rfl) T.d__law_edge.g T.d__law_edge.F.kp T.d__law_edge.b (fun σ => L2N.passAt (L2N.takes_of rfl rfl rfl rfl) σ) (pa_cons (pv 1) (pa_cons pe_int (pa_cons pe_int pa_nil)))) (pa_cons (pe_ix ix_list (pe_lst (pa_cons pe_int (pa_cons pe_int pa_nil))) (pe_callS G__law_take (hr.mono (by first | decide | omega)) (by rfl) T.d__law_take.g T.d__law_take.F.kp T.d__law_take.b (fun σ => L2N.passAt (L2N.takes_of rfl rfl rfl rfl) σ) (pa_cons (pv 1) (pa_cons pe_int pa_nil))) (fun _ _ => rfl)) pa_nil)))))
      (pss_cons (ps_set (i := 7) sc_law.nd rfl (by first | exact Or.inl rfl | exact Or.inr rfl) (pe_callS G__law_prime (hr.mono (by first | decide | omega)) (by rfl) T.d__law_prime.g T.d__law_prime.F.kp T.d__law_prime.b (fun σ => L2N.passAt (L2N.takes_of rfl rfl rfl rfl) σ) (pa_cons (pv 1) pa_nil)))
      (pss_cons (ps_set (i := 8) sc_law.nd rfl (by first | exact Or.inl rfl | exact Or.inr rfl) (pe_callS G__law_made (hr.mono (by first | decide | omega)) (by rfl) T.d__law_made.g T.d__law_made.F.kp T.d__law_made.b (fun σ => L2N.passAt (L2N.takes_of rfl rfl rfl rfl) σ) (pa_cons (pv 1) (pa_cons (pe_ix ix_tup (pv 6) pe_int (fun _ _ => rfl)) (pa_cons (pe_ix ix_tup (pv 6) pe_int (fun _ _ => rfl)) pa_nil)))))
      (pss_cons (ps_if (PW.pt (pw_or (pt_not (pt_val (pe_callS G__law_parts_are (hr.mono (by first | decide | omega)) (by rfl) T.d__law_parts_are.g T.d__law_parts_are.F.kp T.d__law_parts_are.b (fun σ => L2N.passAt (L2N.takes_of rfl rfl rfl rfl) σ) (pa_cons (pv 5) (pa_cons (pe_ix ix_tup (pv 3) pe_int (fun _ _ => rfl)) (pa_cons (pe_ix ix_tup (pv 3) pe_int (fun _ _ => rfl)) pa_nil)))))) (pw_or1 (pt_not (pt_val (pe_callS G__law_parts_are (hr.mono (by first | decide | omega)) (by rfl) T.d__law_parts_are.g T.d__law_parts_are.F.kp T.d__law_parts_are.b (fun σ => L2N.passAt (L2N.takes_of rfl rfl rfl rfl) σ) (pa_cons (pv 8) (pa_cons (pe_ix ix_tup (pv 6) pe_int (fun _ _ => rfl)) (pa_cons (pe_ix ix_tup (pv 6) pe_int (fun _ _ => rfl)) pa_nil))))))))) (pss_one (ps_ret pe_bl)) pss_nil)
      (pss_cons (ps_if (pt_not (pt_val (pe_callS G__law_values_are (hr.mono (by first | decide | omega)) (by rfl) T.d__law_values_are.g T.d__law_values_are.F.kp T.d__law_values_are.b (fun σ => L2N.passAt (L2N.takes_of rfl rfl rfl rfl) σ) (pa_cons (pv 1) (pa_cons (pv 5) (pa_cons (pv 2) (pa_cons (pe_ix ix_tup (pv 3) pe_int (fun _ _ => rfl)) (pa_cons (pv 4) pa_nil)))))))) (pss_one (ps_ret pe_bl)) pss_nil)
      (pss_cons (ps_set (i := 9) sc_law.nd rfl (by first | exact Or.inl rfl | exact Or.inr rfl) (pe_callS G__law_numbers (hr.mono (by first | decide | omega)) (by rfl) T.d__law_numbers.g T.d__law_numbers.F.kp T.d__law_numbers.b (fun σ => L2N.passAt (L2N.takes_of rfl rfl rfl rfl) σ) (pa_cons (pv 1) (pa_cons (pv 7) (pa_cons (pe_ix ix_tup (pv 6) pe_int (fun _ _ => rfl)) pa_nil)))))
      (pss_cons (ps_if (pt_not (pt_val (pe_callS G__law_values_are (hr.mono (by first | decide | omega)) (by rfl) T.d__law_values_are.g T.d__law_values_are.F.kp T.d__law_values_are.b (fun σ => L2N.passAt (L2N.takes_of rfl rfl rfl rfl) σ) (pa_cons (pv 1) (pa_cons (pv 8) (pa_cons (pv 7) (pa_cons (pe_ix ix_tup (pv 6) pe_int (fun _ _ => rfl)) (pa_cons (pv 9) pa_nil)))))))) (pss_one (ps_ret pe_bl)) pss_nil)
      (pss_cons (ps_if (pt_not (pt_val (pe_callS G__law_values_are (hr.mono (by first | decide | omega)) (by rfl) T.d__law_values_are.g T.d__law_values_are.F.kp T.d__law_values_are.b (fun σ => L2N.passAt (L2N.takes_of rfl rfl rfl rfl) σ) (pa_cons (pv 1) (pa_cons (pv 5) (pa_cons (pv 7) (pa_cons (pe_ix ix_tup (pv 3) pe_int (fun _ _ => rfl)) (pa_cons (pe_callS G__law_numbers (hr.mono (by first | decide | omega)) (by rfl) T.d__law_numbers.g T.d__law_numbers.F.kp T.d__law_numbers.b (fun σ => L2N.passAt (L2N.takes_of rfl rfl rfl rfl) σ) (pa_cons (pv 1) (pa_cons (pv 7) (pa_cons (pe_ix ix_tup (pv 3) pe_int (fun _ _ => rfl)) pa_nil)))) pa_nil)))))))) (pss_one (ps_ret pe_bl)) pss_nil)
      (pss_cons (ps_if (pt_not (pt_val (pe_callS G__law_refused (hr.mono (by first | decide | omega)) (by rfl) T.d__law_refused.g T.d__law_refused.F.kp T.d__law_refused.b (fun σ => L2N.passAt (L2N.takes_of rfl rfl rfl rfl) σ) (pa_cons (pv 1) (pa_cons (pv 5) (pa_cons (pv 2) (pa_cons (pv 4) (pa_cons (pe_callB Vb.call_len (by rfl) T.n_len (by decide +kernel) (pa_cons (pe_ix ix_tup (pv 3) pe_int (fun _ _ => rfl)) pa_nil)) pa_nil)))))))) (pss_one (ps_ret pe_bl)) pss_nil)
      (pss_one (ps_ret (pe_callS G__law_values_are (hr.mono (by first | decide | omega)) (by rfl) T.d__law_values_are.g T.d__law_values_are.F.kp T.d__law_values_are.b (fun σ => L2N.passAt (L2N.takes_of rfl rfl rfl rfl) σ) (pa_cons (pv 1) (pa_cons (pv 5) (pa_cons (pv 2) (pa_cons (pe_ix ix_tup (pv 3) pe_int (fun _ _ => rfl)) (pa_cons (pv 4) pa_nil)))))))))))))))))))))), fun st c hX => ?_⟩
  have fz_2 : Frz 2 := ⟨⟩
  have fz_3 : Frz 3 := ⟨⟩
  have fz_4 : Frz 4 := ⟨⟩
  have fz_5 : Frz 5 := ⟨⟩
  have fz_6 : Frz 6 := ⟨⟩
  have fz_7 : Frz 7 := ⟨⟩
  have fz_8 : Frz 8 := ⟨⟩
  have fz_9 : Frz 9 := ⟨⟩
  change W _ _ [.un, .v (Pu.Rf st), .un, .un, .un, .un, .un, .un, .un, .un] _
  walk_at "pw"
  refine ⟨rfl, fun p hp hp2 => ?_⟩
  have h2 := hp.1
  walk_at "pw"
  refine ⟨0, 4, rfl, by decide, fun v v0 v1 _ => ?_⟩
  have v1 := v1 (by decide)
  obtain ⟨n, rfl⟩ := Int.eq_ofNat_of_zero_le v0
  walk_at "pw"
  refine ⟨4, rfl, by decide, fun u u0 u1 _ => ?_⟩
  have u1 := u1 (by decide)
  obtain ⟨bw, hbw, ab⟩ : ∃ bw : Nat, (bw = 1 ∨ bw = 2 ∨ bw = 4) ∧ atI [I 1, I 2, I 4, I 4] u = some (I bw) := by
    obtain rfl | rfl | rfl | rfl : u = 0 ∨ u = 1 ∨ u = 2 ∨ u = 3 := by omega
    · exact ⟨1, .inl rfl, rfl⟩
    · exact ⟨2, .inr (.inl rfl), rfl⟩
    · exact ⟨4, .inr (.inr rfl), rfl⟩
    · exact ⟨4, .inr (.inr rfl), rfl⟩
  walk_at "pw"
  refine ⟨n, bw, rfl, by omega, hbw, fun ls w ll hL => ?_⟩
  have w4 := hL.w_
  walk_at "pw"
  refine ⟨p, w, rfl, ⟨h2, hp2⟩, ⟨by omega, by omega⟩, fun xs lx hxs => ?_⟩
  walk_at "pw"
  refine ⟨ls, w, rfl, hL, ?_⟩
  walk_at "pw"
  refine ⟨0, 4, rfl, by decide, fun v v0 v1 _ => ?_⟩
  have v1 := v1 (by decide)
  obtain ⟨n2, rfl⟩ := Int.eq_ofNat_of_zero_le v0
  walk_at "pw"
  refine ⟨2, rfl, by decide, fun u2 u20 u21 _ => ?_⟩
  have u21 := u21 (by decide)
  obtain ⟨bw2, hbw2, ab2⟩ : ∃ bw : Nat, (bw = 1 ∨ bw = 2 ∨ bw = 4) ∧ atI [I 2, I 4] u2 = some (I bw) := by
    obtain rfl | rfl : u2 = 0 ∨ u2 = 1 := by omega
    · exact ⟨2, .inr (.inl rfl), rfl⟩
    · exact ⟨4, .inr (.inr rfl), rfl⟩
  walk_at "pw"
  refine ⟨n2, bw2, rfl, by omega, hbw2, fun ls2 w2 ll2 hL2 => ?_⟩
  have w24 := hL2.w_
  walk_at "pw"
  refine ⟨rfl, fun p2 hp3 hp4 => ?_⟩
  have h22 := hp3.1
  walk_at "pw"
  refine ⟨ls2, w2, rfl, hL2, ?_⟩
  walk_at "pw"
  refine ⟨ls, w, rfl, hL, ?_⟩
  walk_at "pw"
  refine ⟨ls2, w2, rfl, hL2, ?_⟩
  walk_at "pw"
  refine ⟨p, ls, w, xs, rfl, hL, hp, hp2, by omega, hxs, ?_⟩
  walk_at "pw"
  refine ⟨p2, w2, rfl, ⟨h22, hp4⟩, ⟨by omega, by omega⟩, fun ys ly hys => ?_⟩
  walk_at "pw"
  refine ⟨p2, ls2, w2, ys, rfl, hL2, hp3, hp4, by omega, hys, ?_⟩
  walk_at "pw"
  refine ⟨p2, w, rfl, ⟨h22, hp4⟩, ⟨by omega, by omega⟩, fun zs lz hzs => ?_⟩
  walk_at "pw"
  refine ⟨p2, ls, w, zs, rfl, hL, hp3, hp4, by omega, hzs, ?_⟩
  walk_at "pw"
  refine ⟨ls, w, p, xs, by rw [List.length_map], hL, hp, hp2, by omega, hxs, ?_⟩
  walk_at "pw"
  refine ⟨p, ls, w, xs, rfl, hL, hp, hp2, by omega, hxs, ?_⟩
  walk_at "pw"
  exact rfl
end
end K
set_option maxHeartbeats 0
namespace PySem
namespace Lowvalue
open PySem.W PySem.Calls PyProof.Rows PySem.HandSPX
theorem low_mk {K : Frag} {mg : Str → Option Value} {x qn : Str} {C fI : Addr} {nm q : Str} {N : Addr} {bs bm : List Value} {sn : List Str} {sub : List Value} {ab : Bool} {col : Option Bool} {dd : Option Addr} {k0 k1 k2 k3 k5 : Option Value} {oc : Value} {od : Option Addr} {kV doc pm : Value} {an : Option Addr} {cdv ct : Value} {osl : Array (Option Value)} (p1 p2 q1 q2 q3 q4 : Pos) (g : mg x = some (.ref C))
    (l : K.lookup C = some (excClassObj nm q C N bs bm true sn sub ab col dd k0 k1 k2 k3 k5 "ValueError.__new__")) (b : refsVE bm = true) (sa : findIn K (.ref C) "__setattr__" = some (some (.builtin "object.__setattr__"))) (no : findIn K (.ref C) "value" = some none) (iC : findIn K (.ref C) "__init__" = some (some (.ref fI)))
    (tC : typeIn K (.ref fI) = some (.type "function")) (kC : keepIn K (.ref C) = true) (eC : subIn K (.ref C) (.type "BaseException") = some true) (yC : typeIn K (.ref C) = some (.type "type"))
    (lf : K.lookup fI = some ⟨oc, od, .func (fnOf "__init__" qn (iA p1 p2) (iB q1 q2 q3 q4) iS .none kV doc pm an cdv ct), osl⟩) (cf : codeIn K cdv qn = true) : LowTxt K mg x qn C fI :=
  ⟨g, ⟨_, _, _, _, _, _, _, _, _, _, _, _, _, _, _, l, b⟩, sa, no, iC, tC, kC, eC, yC, ⟨_, _, _, _, _, _, _, _, _, _, _, _, _, _, _, lf, cf⟩⟩
end Lowvalue
end PySem
open PySem PySem.Spec PyProof.Rows L2 in
theorem K.fin {P : Program} {w : World} {K : PySem.W.Frag} {mg : Str → Option Value} {fa : Addr} (hfa : mg "law" = some (.ref fa)) (T : _root_.K.Txt K mg) (hb : ∀ (s : Shared) (v : Value), BindsTo s T.fd_law ⟨[v], []⟩ [("script", v)]) : ∃ fd : FuncData, (∀ (s : Shared) (v : Value), BindsTo s fd ⟨[v], []⟩ [("script", v)]) ∧ ∀ base : Heap, K.In base → base.Ns mainGlobals mg → FnOk P w K mg base (L2N.CX P w) 10 fa fd ["script"] (_root_.K.sp_law K) := by
  have e := hfa.symm.trans T.d_law.g
  cases e
  exact ⟨T.fd_law, hb, fun base _ _ => _root_.K.ok_law T⟩
open PySem PySem.W PyProof.Rows
theorem PySem.Challenge.cw_sumtalk_k73_circuit_values_holds : PySem.Challenge.rw_sumtalk_k73_circuit_values.Holds := by
  w_on; o_law; k_head; (case hw => w_witness2)
  k_fill
  refine L2.walk_of (l := PySem.Challenge.rw_sumtalk_k73_circuit_values) (n := 63) (k := 10) (x := "script") (CX := fun w => L2N.CX PySem.Challenge.rw_sumtalk_k73_circuit_values.prog w) (sp := fun w => K.sp_law _) rfl (by decide) rfl ⟨rfl, by decide, by decide⟩ (fun w h Y => PySem.W.kIn_of Y) ?F (fun _ _ a ns hl _ hS => ⟨a, ns, rfl, hS, hl, fun _ => rfl⟩) (fun _ _ _ _ _ h => by obtain ⟨_, _, _, _, _, _, _, _, _, _, _, _, z⟩ := h; exact z)
  case F =>
    intro w mg fa h KX G hmg
    obtain ⟨t_MAX_PRIME, c_MAX_PRIME⟩ : ∃ t, mg "MAX_PRIME" = some (.int 101 t) := Vb.tok_mk KX G (by k_is)
    obtain ⟨t_MAX_TESTED, c_MAX_TESTED⟩ : ∃ t, mg "MAX_TESTED" = some (.int 10000 t) := Vb.tok_mk KX G (by k_is)
    obtain ⟨t_MAX_LAYERS, c_MAX_LAYERS⟩ : ∃ t, mg "MAX_LAYERS" = some (.int 4 t) := Vb.tok_mk KX G (by k_is)
    obtain ⟨t_ADD, c_ADD⟩ : ∃ t, mg "ADD" = some (.str (Str.ofString "add") t) := Vb.tokS_mk KX G (by k_is)
    obtain ⟨t_GATE_WORDS, c_GATE_WORDS⟩ : ∃ t, mg "GATE_WORDS" = some (.int 3 t) := Vb.tok_mk KX G (by k_is)
    refine' K.fin hmg (K.Txt.mk
      _
      ⟨(PySem.W.mg_of KX G ?a_TalkError), ?q_TalkError, ?k_TalkError, ?e_TalkError, ?t_TalkError⟩
      _
      _
      (PySem.Lowvalue.low_mk ⟨9, 17, 9, 21⟩ ⟨9, 23, 9, 28⟩ ⟨10, 8, 10, 12⟩ ⟨10, 8, 10, 18⟩ ⟨10, 21, 10, 26⟩ ⟨10, 8, 10, 26⟩ (PySem.W.mg_of KX G ?a_NotPrime) ?l_NotPrime ?bm_NotPrime ?sa_NotPrime ?no_NotPrime ?ic_NotPrime ?tc_NotPrime ?kc_NotPrime ?ec_NotPrime ?ty_NotPrime ?lf_NotPrime ?cf_NotPrime)
      _
      _
      (PySem.Lowvalue.low_mk ⟨13, 17, 13, 21⟩ ⟨13, 23, 13, 28⟩ ⟨14, 8, 14, 12⟩ ⟨14, 8, 14, 18⟩ ⟨14, 21, 14, 26⟩ ⟨14, 8, 14, 26⟩ (PySem.W.mg_of KX G ?a_NotInField) ?l_NotInField ?bm_NotInField ?sa_NotInField ?no_NotInField ?ic_NotInField ?tc_NotInField ?kc_NotInField ?ec_NotInField ?ty_NotInField ?lf_NotInField ?cf_NotInField)
      _
      ⟨(PySem.W.mg_of KX G ?a_WrongPlaces), ?q_WrongPlaces, ?k_WrongPlaces, ?e_WrongPlaces, ?t_WrongPlaces⟩
      _
      ⟨(PySem.W.mg_of KX G ?a_OutOfRange), ?q_OutOfRange, ?k_OutOfRange, ?e_OutOfRange, ?t_OutOfRange⟩
      _
      ⟨(PySem.W.mg_of KX G ?a_TooLarge), ?q_TooLarge, ?k_TooLarge, ?e_TooLarge, ?t_TooLarge⟩
      _
      ⟨(PySem.W.mg_of KX G ?a_NotCircuit), ?q_NotCircuit, ?k_NotCircuit, ?e_NotCircuit, ?t_NotCircuit⟩
      ⟨?xcl_NotPrime, ?xga_NotPrime, ?xgg_NotPrime, ?xsb_NotPrime, ?xca_NotPrime, ?xsp_NotPrime, ?xtk_NotPrime, ?xmo_NotPrime, ?xhd_NotPrime, ?xss_NotPrime, ?xty_NotPrime⟩
      ⟨?xcl_NotInField, ?xga_NotInField, ?xgg_NotInField, ?xsb_NotInField, ?xca_NotInField, ?xsp_NotInField, ?xtk_NotInField, ?xmo_NotInField, ?xhd_NotInField, ?xss_NotInField, ?xty_NotInField⟩
      ⟨?xcl_TalkError, ?xga_TalkError, ?xgg_TalkError, ?xsb_TalkError, ?xca_TalkError, ?xsp_TalkError, ?xtk_TalkError, ?xmo_TalkError, ?xhd_TalkError, ?xss_TalkError, ?xty_TalkError⟩
      ⟨?xcl_OutOfRange, ?xga_OutOfRange, ?xgg_OutOfRange, ?xsb_OutOfRange, ?xca_OutOfRange, ?xsp_OutOfRange, ?xtk_OutOfRange, ?xmo_OutOfRange, ?xhd_OutOfRange, ?xss_OutOfRange, ?xty_OutOfRange⟩
      ⟨?xcl_TooLarge, ?xga_TooLarge, ?xgg_TooLarge, ?xsb_TooLarge, ?xca_TooLarge, ?xsp_TooLarge, ?xtk_TooLarge, ?xmo_TooLarge, ?xhd_TooLarge, ?xss_TooLarge, ?xty_TooLarge⟩
      ⟨?xcl_WrongPlaces, ?xga_WrongPlaces, ?xgg_WrongPlaces, ?xsb_WrongPlaces, ?xca_WrongPlaces, ?xsp_WrongPlaces, ?xtk_WrongPlaces, ?xmo_WrongPlaces, ?xhd_WrongPlaces, ?xss_WrongPlaces, ?xty_WrongPlaces⟩
      ⟨?xcl_NotCircuit, ?xga_NotCircuit, ?xgg_NotCircuit, ?xsb_NotCircuit, ?xca_NotCircuit, ?xsp_NotCircuit, ?xtk_NotCircuit, ?xmo_NotCircuit, ?xhd_NotCircuit, ?xss_NotCircuit, ?xty_NotCircuit⟩
      (Vb.kit_no ?i_NotInField_NotPrime ?y_NotInField_NotPrime ?s_NotInField_NotPrime ?ne_NotInField_NotPrime)
      (Vb.kit_no ?i_NotInField_WrongPlaces ?y_NotInField_WrongPlaces ?s_NotInField_WrongPlaces ?ne_NotInField_WrongPlaces)
      (Vb.kit_yes ?i_NotInField_NotInField ?y_NotInField_NotInField ?s_NotInField_NotInField)
      (Vb.kit_no ?i_NotInField_OutOfRange ?y_NotInField_OutOfRange ?s_NotInField_OutOfRange ?ne_NotInField_OutOfRange)
      (Vb.kit_no ?i_NotInField_NotCircuit ?y_NotInField_NotCircuit ?s_NotInField_NotCircuit ?ne_NotInField_NotCircuit)
      (Vb.kit_no ?i_NotInField_TooLarge ?y_NotInField_TooLarge ?s_NotInField_TooLarge ?ne_NotInField_TooLarge)
      (Vb.kit_no ?i_OutOfRange_NotPrime ?y_OutOfRange_NotPrime ?s_OutOfRange_NotPrime ?ne_OutOfRange_NotPrime)
      (Vb.kit_no ?i_OutOfRange_WrongPlaces ?y_OutOfRange_WrongPlaces ?s_OutOfRange_WrongPlaces ?ne_OutOfRange_WrongPlaces)
      (Vb.kit_no ?i_OutOfRange_NotInField ?y_OutOfRange_NotInField ?s_OutOfRange_NotInField ?ne_OutOfRange_NotInField)
      (Vb.kit_yes ?i_OutOfRange_OutOfRange ?y_OutOfRange_OutOfRange ?s_OutOfRange_OutOfRange)
      (Vb.kit_no ?i_OutOfRange_NotCircuit ?y_OutOfRange_NotCircuit ?s_OutOfRange_NotCircuit ?ne_OutOfRange_NotCircuit)
      (Vb.kit_no ?i_OutOfRange_TooLarge ?y_OutOfRange_TooLarge ?s_OutOfRange_TooLarge ?ne_OutOfRange_TooLarge)
      (Vb.kit_no ?i_TooLarge_NotPrime ?y_TooLarge_NotPrime ?s_TooLarge_NotPrime ?ne_TooLarge_NotPrime)
      (Vb.kit_no ?i_TooLarge_WrongPlaces ?y_TooLarge_WrongPlaces ?s_TooLarge_WrongPlaces ?ne_TooLarge_WrongPlaces)
      (Vb.kit_no ?i_TooLarge_NotInField ?y_TooLarge_NotInField ?s_TooLarge_NotInField ?ne_TooLarge_NotInField)
      (Vb.kit_no ?i_TooLarge_OutOfRange ?y_TooLarge_OutOfRange ?s_TooLarge_OutOfRange ?ne_TooLarge_OutOfRange)
      (Vb.kit_no ?i_TooLarge_NotCircuit ?y_TooLarge_NotCircuit ?s_TooLarge_NotCircuit ?ne_TooLarge_NotCircuit)
      (Vb.kit_yes ?i_TooLarge_TooLarge ?y_TooLarge_TooLarge ?s_TooLarge_TooLarge)
      (Vb.kit_no ?i_WrongPlaces_NotPrime ?y_WrongPlaces_NotPrime ?s_WrongPlaces_NotPrime ?ne_WrongPlaces_NotPrime)
      (Vb.kit_yes ?i_WrongPlaces_WrongPlaces ?y_WrongPlaces_WrongPlaces ?s_WrongPlaces_WrongPlaces)
      (Vb.kit_no ?i_WrongPlaces_NotInField ?y_WrongPlaces_NotInField ?s_WrongPlaces_NotInField ?ne_WrongPlaces_NotInField)
      (Vb.kit_no ?i_WrongPlaces_OutOfRange ?y_WrongPlaces_OutOfRange ?s_WrongPlaces_OutOfRange ?ne_WrongPlaces_OutOfRange)
      (Vb.kit_no ?i_WrongPlaces_NotCircuit ?y_WrongPlaces_NotCircuit ?s_WrongPlaces_NotCircuit ?ne_WrongPlaces_NotCircuit)
      (Vb.kit_no ?i_WrongPlaces_TooLarge ?y_WrongPlaces_TooLarge ?s_WrongPlaces_TooLarge ?ne_WrongPlaces_TooLarge)
      (Vb.kit_yes ?i_NotPrime_NotPrime ?y_NotPrime_NotPrime ?s_NotPrime_NotPrime)
      (Vb.kit_no ?i_NotPrime_WrongPlaces ?y_NotPrime_WrongPlaces ?s_NotPrime_WrongPlaces ?ne_NotPrime_WrongPlaces)
      (Vb.kit_no ?i_NotPrime_NotInField ?y_NotPrime_NotInField ?s_NotPrime_NotInField ?ne_NotPrime_NotInField)
      (Vb.kit_no ?i_NotPrime_OutOfRange ?y_NotPrime_OutOfRange ?s_NotPrime_OutOfRange ?ne_NotPrime_OutOfRange)
      (Vb.kit_no ?i_NotPrime_NotCircuit ?y_NotPrime_NotCircuit ?s_NotPrime_NotCircuit ?ne_NotPrime_NotCircuit)
      (Vb.kit_no ?i_NotPrime_TooLarge ?y_NotPrime_TooLarge ?s_NotPrime_TooLarge ?ne_NotPrime_TooLarge)
      (Vb.kit_no ?i_NotCircuit_NotPrime ?y_NotCircuit_NotPrime ?s_NotCircuit_NotPrime ?ne_NotCircuit_NotPrime)
      (Vb.kit_no ?i_NotCircuit_WrongPlaces ?y_NotCircuit_WrongPlaces ?s_NotCircuit_WrongPlaces ?ne_NotCircuit_WrongPlaces)
      (Vb.kit_no ?i_NotCircuit_NotInField ?y_NotCircuit_NotInField ?s_NotCircuit_NotInField ?ne_NotCircuit_NotInField)
      (Vb.kit_no ?i_NotCircuit_OutOfRange ?y_NotCircuit_OutOfRange ?s_NotCircuit_OutOfRange ?ne_NotCircuit_OutOfRange)
      (Vb.kit_yes ?i_NotCircuit_NotCircuit ?y_NotCircuit_NotCircuit ?s_NotCircuit_NotCircuit)
      (Vb.kit_no ?i_NotCircuit_TooLarge ?y_NotCircuit_TooLarge ?s_NotCircuit_TooLarge ?ne_NotCircuit_TooLarge)
      _
      _
      (Vb.dn_mk (PySem.W.mg_of KX G ?a__wall) ?l__wall ?c__wall ?k__wall fun _ _ _ _ _ _ us hl => match us, hl with | [_], _ => rfl)
      _
      _
      (Vb.dn_mk (PySem.W.mg_of KX G ?a_is_whole) ?l_is_whole ?c_is_whole ?k_is_whole fun _ _ _ _ _ _ us hl => match us, hl with | [_], _ => rfl)
      _
      _
      (Vb.dn_mk (PySem.W.mg_of KX G ?a_is_number) ?l_is_number ?c_is_number ?k_is_number fun _ _ _ _ _ _ us hl => match us, hl with | [_, _], _ => rfl)
      _
      _
      (Vb.dn_mk (PySem.W.mg_of KX G ?a_check_number) ?l_check_number ?c_check_number ?k_check_number fun _ _ _ _ _ _ us hl => match us, hl with | [_, _], _ => rfl)
      _
      _
      (Vb.dn_mk (PySem.W.mg_of KX G ?a_check_numbers) ?l_check_numbers ?c_check_numbers ?k_check_numbers fun _ _ _ _ _ _ us hl => match us, hl with | [_, _], _ => rfl)
      _
      _
      (Vb.dn_mk (PySem.W.mg_of KX G ?a_check_range) ?l_check_range ?c_check_range ?k_check_range fun _ _ _ _ _ _ us hl => match us, hl with | [_, _, _], _ => rfl)
      _
      _
      (Vb.dn_mk (PySem.W.mg_of KX G ?a_check_at_most) ?l_check_at_most ?c_check_at_most ?k_check_at_most fun _ _ _ _ _ _ us hl => match us, hl with | [_, _], _ => rfl)
      _
      _
      (Vb.dn_mk (PySem.W.mg_of KX G ?a_check_length) ?l_check_length ?c_check_length ?k_check_length fun _ _ _ _ _ _ us hl => match us, hl with | [_, _], _ => rfl)
      _
      _
      (Vb.dn_mk (PySem.W.mg_of KX G ?a_is_prime) ?l_is_prime ?c_is_prime ?k_is_prime fun _ _ _ _ _ _ us hl => match us, hl with | [_], _ => rfl)
      _
      _
      (Vb.dn_mk (PySem.W.mg_of KX G ?a_check_prime) ?l_check_prime ?c_check_prime ?k_check_prime fun _ _ _ _ _ _ us hl => match us, hl with | [_], _ => rfl)
      _
      _
      (Vb.dn_mk (PySem.W.mg_of KX G ?a_is_width) ?l_is_width ?c_is_width ?k_is_width fun _ _ _ _ _ _ us hl => match us, hl with | [_], _ => rfl)
      _
      _
      (Vb.dn_mk (PySem.W.mg_of KX G ?a_is_kind) ?l_is_kind ?c_is_kind ?k_is_kind fun _ _ _ _ _ _ us hl => match us, hl with | [_], _ => rfl)
      _
      _
      (Vb.dn_mk (PySem.W.mg_of KX G ?a_is_gate) ?l_is_gate ?c_is_gate ?k_is_gate fun _ _ _ _ _ _ us hl => match us, hl with | [_, _], _ => rfl)
      _
      _
      (Vb.dn_mk (PySem.W.mg_of KX G ?a_gate_value) ?l_gate_value ?c_gate_value ?k_gate_value fun _ _ _ _ _ _ us hl => match us, hl with | [_, _, _], _ => rfl)
      _
      _
      (Vb.dn_mk (PySem.W.mg_of KX G ?a_check_inputs) ?l_check_inputs ?c_check_inputs ?k_check_inputs fun _ _ _ _ _ _ us hl => match us, hl with | [_, _, _], _ => rfl)
      _
      _
      (Vb.dn_mk (PySem.W.mg_of KX G ?a_circuit_values) ?l_circuit_values ?c_circuit_values ?k_circuit_values fun _ _ _ _ _ _ us hl => match us, hl with | [_, _, _], _ => rfl)
      _
      _
      (Vb.dn_mk (PySem.W.mg_of KX G ?a__law_mix) ?l__law_mix ?c__law_mix ?k__law_mix fun _ _ _ _ _ _ us hl => match us, hl with | [_, _], _ => rfl)
      _
      _
      (Vb.dn_mk (PySem.W.mg_of KX G ?a__law_store) ?l__law_store ?c__law_store ?k__law_store fun _ _ _ _ _ _ us hl => match us, hl with | [_], _ => rfl)
      _
      _
      (Vb.dn_mk (PySem.W.mg_of KX G ?a__law_take) ?l__law_take ?c__law_take ?k__law_take fun _ _ _ _ _ _ us hl => match us, hl with | [_, _], _ => rfl)
      _
      _
      (Vb.dn_mk (PySem.W.mg_of KX G ?a__law_edge) ?l__law_edge ?c__law_edge ?k__law_edge fun _ _ _ _ _ _ us hl => match us, hl with | [_, _, _], _ => rfl)
      _
      _
      (Vb.dn_mk (PySem.W.mg_of KX G ?a__law_chance) ?l__law_chance ?c__law_chance ?k__law_chance fun _ _ _ _ _ _ us hl => match us, hl with | [_, _], _ => rfl)
      _
      _
      (Vb.dn_mk (PySem.W.mg_of KX G ?a__law_pick) ?l__law_pick ?c__law_pick ?k__law_pick fun _ _ _ _ _ _ us hl => match us, hl with | [_, _], _ => rfl)
      _
      _
      (Vb.dn_mk (PySem.W.mg_of KX G ?a__law_other_kind) ?l__law_other_kind ?c__law_other_kind ?k__law_other_kind fun _ _ _ _ _ _ us hl => match us, hl with | [_], _ => rfl)
      _
      _
      (Vb.dn_mk (PySem.W.mg_of KX G ?a__law_bad_integer) ?l__law_bad_integer ?c__law_bad_integer ?k__law_bad_integer fun _ _ _ _ _ _ us hl => match us, hl with | [_, _, _], _ => rfl)
      _
      _
      (Vb.dn_mk (PySem.W.mg_of KX G ?a__law_primes) ?l__law_primes ?c__law_primes ?k__law_primes fun _ _ _ _ _ _ us hl => match us, hl with | [_], _ => rfl)
      _
      _
      (Vb.dn_mk (PySem.W.mg_of KX G ?a__law_prime) ?l__law_prime ?c__law_prime ?k__law_prime fun _ _ _ _ _ _ us hl => match us, hl with | [_], _ => rfl)
      _
      _
      (Vb.dn_mk (PySem.W.mg_of KX G ?a__law_number) ?l__law_number ?c__law_number ?k__law_number fun _ _ _ _ _ _ us hl => match us, hl with | [_, _], _ => rfl)
      _
      _
      (Vb.dn_mk (PySem.W.mg_of KX G ?a__law_numbers) ?l__law_numbers ?c__law_numbers ?k__law_numbers fun _ _ _ _ _ _ us hl => match us, hl with | [_, _, _], _ => rfl)
      _
      _
      (Vb.dn_mk (PySem.W.mg_of KX G ?a__law_row) ?l__law_row ?c__law_row ?k__law_row fun _ _ _ _ _ _ us hl => match us, hl with | [_, _], _ => rfl)
      _
      _
      (Vb.dn_mk (PySem.W.mg_of KX G ?a__law_bad_number) ?l__law_bad_number ?c__law_bad_number ?k__law_bad_number fun _ _ _ _ _ _ us hl => match us, hl with | [_, _], _ => rfl)
      _
      _
      (Vb.dn_mk (PySem.W.mg_of KX G ?a__law_bad_row) ?l__law_bad_row ?c__law_bad_row ?k__law_bad_row fun _ _ _ _ _ _ us hl => match us, hl with | [_, _, _], _ => rfl)
      _
      _
      (Vb.dn_mk (PySem.W.mg_of KX G ?a__law_bad_prime) ?l__law_bad_prime ?c__law_bad_prime ?k__law_bad_prime fun _ _ _ _ _ _ us hl => match us, hl with | [_], _ => rfl)
      _
      _
      (Vb.dn_mk (PySem.W.mg_of KX G ?a__law_same) ?l__law_same ?c__law_same ?k__law_same fun _ _ _ _ _ _ us hl => match us, hl with | [_, _], _ => rfl)
      _
      _
      (Vb.dn_mk (PySem.W.mg_of KX G ?a__law_copy) ?l__law_copy ?c__law_copy ?k__law_copy fun _ _ _ _ _ _ us hl => match us, hl with | [_], _ => rfl)
      _
      _
      (Vb.dn_mk (PySem.W.mg_of KX G ?a__law_spoil_list) ?l__law_spoil_list ?c__law_spoil_list ?k__law_spoil_list fun _ _ _ _ _ _ us hl => match us, hl with | [_], _ => rfl)
      _
      _
      (Vb.dn_mk (PySem.W.mg_of KX G ?a__law_gates) ?l__law_gates ?c__law_gates ?k__law_gates fun _ _ _ _ _ _ us hl => match us, hl with | [_, _, _], _ => rfl)
      _
      _
      (Vb.dn_mk (PySem.W.mg_of KX G ?a__law_circuit) ?l__law_circuit ?c__law_circuit ?k__law_circuit fun _ _ _ _ _ _ us hl => match us, hl with | [_, _, _], _ => rfl)
      _
      _
      (Vb.dn_mk (PySem.W.mg_of KX G ?a__law_widths) ?l__law_widths ?c__law_widths ?k__law_widths fun _ _ _ _ _ _ us hl => match us, hl with | [_, _], _ => rfl)
      _
      _
      (Vb.dn_mk (PySem.W.mg_of KX G ?a__law_mixed) ?l__law_mixed ?c__law_mixed ?k__law_mixed fun _ _ _ _ _ _ us hl => match us, hl with | [_, _], _ => rfl)
      _
      _
      (Vb.dn_mk (PySem.W.mg_of KX G ?a__law_class_names) ?l__law_class_names ?c__law_class_names ?k__law_class_names fun _ _ _ _ _ _ us hl => match us, hl with | [_], _ => rfl)
      _
      _
      (Vb.dn_mk (PySem.W.mg_of KX G ?a__law_told) ?l__law_told ?c__law_told ?k__law_told fun _ _ _ _ _ _ us hl => match us, hl with | [_, _, _, _], _ => rfl)
      _
      _
      (Vb.dn_mk (PySem.W.mg_of KX G ?a__law_bits_told) ?l__law_bits_told ?c__law_bits_told ?k__law_bits_told fun _ _ _ _ _ _ us hl => match us, hl with | [_, _], _ => rfl)
      _
      _
      (Vb.dn_mk (PySem.W.mg_of KX G ?a__law_made) ?l__law_made ?c__law_made ?k__law_made fun _ _ _ _ _ _ us hl => match us, hl with | [_, _, _], _ => rfl)
      _
      _
      (Vb.dn_mk (PySem.W.mg_of KX G ?a__law_parts_are) ?l__law_parts_are ?c__law_parts_are ?k__law_parts_are fun _ _ _ _ _ _ us hl => match us, hl with | [_, _, _], _ => rfl)
      _
      _
      (Vb.dn_mk (PySem.W.mg_of KX G ?a__law_fits) ?l__law_fits ?c__law_fits ?k__law_fits fun _ _ _ _ _ _ us hl => match us, hl with | [_, _, _, _], _ => rfl)
      _
      _
      (Vb.dn_mk (PySem.W.mg_of KX G ?a__law_values_are) ?l__law_values_are ?c__law_values_are ?k__law_values_are fun _ _ _ _ _ _ us hl => match us, hl with | [_, _, _, _, _], _ => rfl)
      _
      _
      (Vb.dn_mk (PySem.W.mg_of KX G ?a__law_refused) ?l__law_refused ?c__law_refused ?k__law_refused fun _ _ _ _ _ _ us hl => match us, hl with | [_, _, _, _, _], _ => rfl)
      _
      _
      (Vb.dn_mk (PySem.W.mg_of KX G ?a_law) ?l_law ?c_law ?k_law fun _ _ _ _ _ _ us hl => match us, hl with | [_], _ => rfl)
      _
      (PySem.W.mg_of KX G ?a_Circuit)
      ⟨?pg_Circuit, ?hd_Circuit, ?po_Circuit, ?sa_Circuit⟩
      _
      _
      ⟨?ma_Circuit___init__, ?mf_Circuit___init__, ?mk_Circuit___init__⟩
      (Vb.dm_mk ?l_Circuit___init__ ?c_Circuit___init__ ?k_Circuit___init__ fun _ _ _ _ _ _ us hl => match us, hl with | [_, _, _], _ => rfl)
      _
      _
      ⟨?ma_Circuit___eq__, ?mf_Circuit___eq__, ?mk_Circuit___eq__⟩
      (Vb.dm_mk ?l_Circuit___eq__ ?c_Circuit___eq__ ?k_Circuit___eq__ fun _ _ _ _ _ _ us hl => match us, hl with | [_, _], _ => rfl)
      _
      _
      _
      (Vb.prop_mk ?ma_Circuit_depth ?mf_Circuit_depth ?mk_Circuit_depth ?mr_Circuit_depth)
      (Vb.dm_mk ?l_Circuit_depth ?c_Circuit_depth ?k_Circuit_depth fun _ _ _ _ _ _ us hl => match us, hl with | [_], _ => rfl)
      _
      _
      ⟨?ma_Circuit_bits, ?mf_Circuit_bits, ?mk_Circuit_bits⟩
      (Vb.dm_mk ?l_Circuit_bits ?c_Circuit_bits ?k_Circuit_bits fun _ _ _ _ _ _ us hl => match us, hl with | [_, _], _ => rfl)
      _
      _
      ⟨?ma_Circuit_text, ?mf_Circuit_text, ?mk_Circuit_text⟩
      (Vb.dm_mk ?l_Circuit_text ?c_Circuit_text ?k_Circuit_text fun _ _ _ _ _ _ us hl => match us, hl with | [_], _ => rfl)
      ⟨?mm_Circuit, ?mi_Circuit, ?mn_Circuit, ?mp_Circuit⟩
      ?n_Circuit_layers
      ?n_Circuit_width
      ?n_Circuit_widths
      ?xs_NotInField_NotPrime
      ?xs_TalkError_NotPrime
      ?xs_TalkError_NotInField
      ?xs_NotInField_TalkError
      ?xs_OutOfRange_NotPrime
      ?xs_OutOfRange_NotInField
      ?xs_OutOfRange_TalkError
      ?xs_TooLarge_NotPrime
      ?xs_TooLarge_NotInField
      ?xs_TooLarge_TalkError
      ?xs_WrongPlaces_NotPrime
      ?xs_WrongPlaces_NotInField
      ?xs_WrongPlaces_TalkError
      ?xs_NotPrime_NotInField
      ?xs_NotPrime_TalkError
      ?xs_NotCircuit_NotPrime
      ?xs_NotCircuit_NotInField
      ?xs_NotCircuit_TalkError
      ⟨?kh_Circuit, ?kn_Circuit, ?kt_Circuit, ?km_Circuit, ?kc_Circuit, ?ky_Circuit⟩
      ?sb_Circuit_int
      ?sb_Circuit_str
      ?sb_Circuit_NoneType
      ?sb_Circuit_bool
      ?sb_Circuit_list
      ?sb_Circuit_tuple
      ?nl_Circuit
      t_MAX_PRIME
      c_MAX_PRIME
      t_MAX_TESTED
      c_MAX_TESTED
      t_MAX_LAYERS
      c_MAX_LAYERS
      t_ADD
      c_ADD
      t_GATE_WORDS
      c_GATE_WORDS
      _
      (PySem.W.mg_of KX G ?a_TABLE_LENGTHS)
      (Vb.tc_mk6 ?l_TABLE_LENGTHS)
      _
      (PySem.W.mg_of KX G ?a_WIDTHS)
      (Vb.tc_mk3 ?l_WIDTHS)
      _
      (PySem.W.mg_of KX G ?a_KINDS)
      (Vb.tcs_mk2 ?l_KINDS)
      (PySem.W.mg_none_of KX G ?n_ValueError)
      (PySem.W.mg_none_of KX G ?n_max)
      (PySem.W.mg_none_of KX G ?n_range)
      (PySem.W.mg_none_of KX G ?n_tuple)
      (PySem.W.mg_none_of KX G ?n_list)
      (PySem.W.mg_none_of KX G ?n_isinstance)
      (PySem.W.mg_none_of KX G ?n_int)
      (PySem.W.mg_none_of KX G ?n_str)
      (PySem.W.mg_none_of KX G ?n_len)
      (PySem.W.mg_none_of KX G ?n_all)
      (PySem.W.mg_none_of KX G ?n_zip)
      (PySem.W.mg_none_of KX G ?n_bool)
      (PySem.W.mg_none_of KX G ?n_abs)
      (PySem.W.mg_none_of KX G ?n_min)) ?hb
    (case a_TalkError => k_is)
    (case q_TalkError => k_exc)
    (case k_TalkError => k_is)
    (case e_TalkError => k_is)
    (case t_TalkError => k_is)
    (case a_NotPrime => k_is)
    (case l_NotPrime => k_is)
    (case bm_NotPrime => decide +kernel)
    (case sa_NotPrime => k_is)
    (case no_NotPrime => k_is)
    (case ic_NotPrime => k_is)
    (case tc_NotPrime => k_is)
    (case kc_NotPrime => k_is)
    (case ec_NotPrime => k_is)
    (case ty_NotPrime => k_is)
    (case lf_NotPrime => k_is)
    (case cf_NotPrime => k_is)
    (case a_NotInField => k_is)
    (case l_NotInField => k_is)
    (case bm_NotInField => decide +kernel)
    (case sa_NotInField => k_is)
    (case no_NotInField => k_is)
    (case ic_NotInField => k_is)
    (case tc_NotInField => k_is)
    (case kc_NotInField => k_is)
    (case ec_NotInField => k_is)
    (case ty_NotInField => k_is)
    (case lf_NotInField => k_is)
    (case cf_NotInField => k_is)
    (case a_WrongPlaces => k_is)
    (case q_WrongPlaces => k_exc)
    (case k_WrongPlaces => k_is)
    (case e_WrongPlaces => k_is)
    (case t_WrongPlaces => k_is)
    (case a_OutOfRange => k_is)
    (case q_OutOfRange => k_exc)
    (case k_OutOfRange => k_is)
    (case e_OutOfRange => k_is)
    (case t_OutOfRange => k_is)
    (case a_TooLarge => k_is)
    (case q_TooLarge => k_exc)
    (case k_TooLarge => k_is)
    (case e_TooLarge => k_is)
    (case t_TooLarge => k_is)
    (case a_NotCircuit => k_is)
    (case q_NotCircuit => k_exc)
    (case k_NotCircuit => k_is)
    (case e_NotCircuit => k_is)
    (case t_NotCircuit => k_is)
    (case xcl_NotPrime => k_is)
    (case xga_NotPrime => k_is)
    (case xgg_NotPrime => k_is)
    (case xsb_NotPrime => k_is)
    (case xca_NotPrime => k_is)
    (case xsp_NotPrime => k_is)
    (case xtk_NotPrime => k_is)
    (case xmo_NotPrime => k_is)
    (case xhd_NotPrime => k_is)
    (case xss_NotPrime => k_is)
    (case xty_NotPrime => k_is)
    (case xcl_NotInField => k_is)
    (case xga_NotInField => k_is)
    (case xgg_NotInField => k_is)
    (case xsb_NotInField => k_is)
    (case xca_NotInField => k_is)
    (case xsp_NotInField => k_is)
    (case xtk_NotInField => k_is)
    (case xmo_NotInField => k_is)
    (case xhd_NotInField => k_is)
    (case xss_NotInField => k_is)
    (case xty_NotInField => k_is)
    (case xcl_TalkError => k_is)
    (case xga_TalkError => k_is)
    (case xgg_TalkError => k_is)
    (case xsb_TalkError => k_is)
    (case xca_TalkError => k_is)
    (case xsp_TalkError => k_is)
    (case xtk_TalkError => k_is)
    (case xmo_TalkError => k_is)
    (case xhd_TalkError => k_is)
    (case xss_TalkError => k_is)
    (case xty_TalkError => k_is)
    (case xcl_OutOfRange => k_is)
    (case xga_OutOfRange => k_is)
    (case xgg_OutOfRange => k_is)
    (case xsb_OutOfRange => k_is)
    (case xca_OutOfRange => k_is)
    (case xsp_OutOfRange => k_is)
    (case xtk_OutOfRange => k_is)
    (case xmo_OutOfRange => k_is)
    (case xhd_OutOfRange => k_is)
    (case xss_OutOfRange => k_is)
    (case xty_OutOfRange => k_is)
    (case xcl_TooLarge => k_is)
    (case xga_TooLarge => k_is)
    (case xgg_TooLarge => k_is)
    (case xsb_TooLarge => k_is)
    (case xca_TooLarge => k_is)
    (case xsp_TooLarge => k_is)
    (case xtk_TooLarge => k_is)
    (case xmo_TooLarge => k_is)
    (case xhd_TooLarge => k_is)
    (case xss_TooLarge => k_is)
    (case xty_TooLarge => k_is)
    (case xcl_WrongPlaces => k_is)
    (case xga_WrongPlaces => k_is)
    (case xgg_WrongPlaces => k_is)
    (case xsb_WrongPlaces => k_is)
    (case xca_WrongPlaces => k_is)
    (case xsp_WrongPlaces => k_is)
    (case xtk_WrongPlaces => k_is)
    (case xmo_WrongPlaces => k_is)
    (case xhd_WrongPlaces => k_is)
    (case xss_WrongPlaces => k_is)
    (case xty_WrongPlaces => k_is)
    (case xcl_NotCircuit => k_is)
    (case xga_NotCircuit => k_is)
    (case xgg_NotCircuit => k_is)
    (case xsb_NotCircuit => k_is)
    (case xca_NotCircuit => k_is)
    (case xsp_NotCircuit => k_is)
    (case xtk_NotCircuit => k_is)
    (case xmo_NotCircuit => k_is)
    (case xhd_NotCircuit => k_is)
    (case xss_NotCircuit => k_is)
    (case xty_NotCircuit => k_is)
    (case i_NotInField_NotPrime => k_is)
    (case y_NotInField_NotPrime => k_is)
    (case s_NotInField_NotPrime => k_is)
    (case ne_NotInField_NotPrime => decide)
    (case i_NotInField_WrongPlaces => k_is)
    (case y_NotInField_WrongPlaces => k_is)
    (case s_NotInField_WrongPlaces => k_is)
    (case ne_NotInField_WrongPlaces => decide)
    (case i_NotInField_NotInField => k_is)
    (case y_NotInField_NotInField => k_is)
    (case s_NotInField_NotInField => k_is)
    (case i_NotInField_OutOfRange => k_is)
    (case y_NotInField_OutOfRange => k_is)
    (case s_NotInField_OutOfRange => k_is)
    (case ne_NotInField_OutOfRange => decide)
    (case i_NotInField_NotCircuit => k_is)
    (case y_NotInField_NotCircuit => k_is)
    (case s_NotInField_NotCircuit => k_is)
    (case ne_NotInField_NotCircuit => decide)
    (case i_NotInField_TooLarge => k_is)
    (case y_NotInField_TooLarge => k_is)
    (case s_NotInField_TooLarge => k_is)
    (case ne_NotInField_TooLarge => decide)
    (case i_OutOfRange_NotPrime => k_is)
    (case y_OutOfRange_NotPrime => k_is)
    (case s_OutOfRange_NotPrime => k_is)
    (case ne_OutOfRange_NotPrime => decide)
    (case i_OutOfRange_WrongPlaces => k_is)
    (case y_OutOfRange_WrongPlaces => k_is)
    (case s_OutOfRange_WrongPlaces => k_is)
    (case ne_OutOfRange_WrongPlaces => decide)
    (case i_OutOfRange_NotInField => k_is)
    (case y_OutOfRange_NotInField => k_is)
    (case s_OutOfRange_NotInField => k_is)
    (case ne_OutOfRange_NotInField => decide)
    (case i_OutOfRange_OutOfRange => k_is)
    (case y_OutOfRange_OutOfRange => k_is)
    (case s_OutOfRange_OutOfRange => k_is)
    (case i_OutOfRange_NotCircuit => k_is)
    (case y_OutOfRange_NotCircuit => k_is)
    (case s_OutOfRange_NotCircuit => k_is)
    (case ne_OutOfRange_NotCircuit => decide)
    (case i_OutOfRange_TooLarge => k_is)
    (case y_OutOfRange_TooLarge => k_is)
    (case s_OutOfRange_TooLarge => k_is)
    (case ne_OutOfRange_TooLarge => decide)
    (case i_TooLarge_NotPrime => k_is)
    (case y_TooLarge_NotPrime => k_is)
    (case s_TooLarge_NotPrime => k_is)
    (case ne_TooLarge_NotPrime => decide)
    (case i_TooLarge_WrongPlaces => k_is)
    (case y_TooLarge_WrongPlaces => k_is)
    (case s_TooLarge_WrongPlaces => k_is)
    (case ne_TooLarge_WrongPlaces => decide)
    (case i_TooLarge_NotInField => k_is)
    (case y_TooLarge_NotInField => k_is)
    (case s_TooLarge_NotInField => k_is)
    (case ne_TooLarge_NotInField => decide)
    (case i_TooLarge_OutOfRange => k_is)
    (case y_TooLarge_OutOfRange => k_is)
    (case s_TooLarge_OutOfRange => k_is)
    (case ne_TooLarge_OutOfRange => decide)
    (case i_TooLarge_NotCircuit => k_is)
    (case y_TooLarge_NotCircuit => k_is)
    (case s_TooLarge_NotCircuit => k_is)
    (case ne_TooLarge_NotCircuit => decide)
    (case i_TooLarge_TooLarge => k_is)
    (case y_TooLarge_TooLarge => k_is)
    (case s_TooLarge_TooLarge => k_is)
    (case i_WrongPlaces_NotPrime => k_is)
    (case y_WrongPlaces_NotPrime => k_is)
    (case s_WrongPlaces_NotPrime => k_is)
    (case ne_WrongPlaces_NotPrime => decide)
    (case i_WrongPlaces_WrongPlaces => k_is)
    (case y_WrongPlaces_WrongPlaces => k_is)
    (case s_WrongPlaces_WrongPlaces => k_is)
    (case i_WrongPlaces_NotInField => k_is)
    (case y_WrongPlaces_NotInField => k_is)
    (case s_WrongPlaces_NotInField => k_is)
    (case ne_WrongPlaces_NotInField => decide)
    (case i_WrongPlaces_OutOfRange => k_is)
    (case y_WrongPlaces_OutOfRange => k_is)
    (case s_WrongPlaces_OutOfRange => k_is)
    (case ne_WrongPlaces_OutOfRange => decide)
    (case i_WrongPlaces_NotCircuit => k_is)
    (case y_WrongPlaces_NotCircuit => k_is)
    (case s_WrongPlaces_NotCircuit => k_is)
    (case ne_WrongPlaces_NotCircuit => decide)
    (case i_WrongPlaces_TooLarge => k_is)
    (case y_WrongPlaces_TooLarge => k_is)
    (case s_WrongPlaces_TooLarge => k_is)
    (case ne_WrongPlaces_TooLarge => decide)
    (case i_NotPrime_NotPrime => k_is)
    (case y_NotPrime_NotPrime => k_is)
    (case s_NotPrime_NotPrime => k_is)
    (case i_NotPrime_WrongPlaces => k_is)
    (case y_NotPrime_WrongPlaces => k_is)
    (case s_NotPrime_WrongPlaces => k_is)
    (case ne_NotPrime_WrongPlaces => decide)
    (case i_NotPrime_NotInField => k_is)
    (case y_NotPrime_NotInField => k_is)
    (case s_NotPrime_NotInField => k_is)
    (case ne_NotPrime_NotInField => decide)
    (case i_NotPrime_OutOfRange => k_is)
    (case y_NotPrime_OutOfRange => k_is)
    (case s_NotPrime_OutOfRange => k_is)
    (case ne_NotPrime_OutOfRange => decide)
    (case i_NotPrime_NotCircuit => k_is)
    (case y_NotPrime_NotCircuit => k_is)
    (case s_NotPrime_NotCircuit => k_is)
    (case ne_NotPrime_NotCircuit => decide)
    (case i_NotPrime_TooLarge => k_is)
    (case y_NotPrime_TooLarge => k_is)
    (case s_NotPrime_TooLarge => k_is)
    (case ne_NotPrime_TooLarge => decide)
    (case i_NotCircuit_NotPrime => k_is)
    (case y_NotCircuit_NotPrime => k_is)
    (case s_NotCircuit_NotPrime => k_is)
    (case ne_NotCircuit_NotPrime => decide)
    (case i_NotCircuit_WrongPlaces => k_is)
    (case y_NotCircuit_WrongPlaces => k_is)
    (case s_NotCircuit_WrongPlaces => k_is)
    (case ne_NotCircuit_WrongPlaces => decide)
    (case i_NotCircuit_NotInField => k_is)
    (case y_NotCircuit_NotInField => k_is)
    (case s_NotCircuit_NotInField => k_is)
    (case ne_NotCircuit_NotInField => decide)
    (case i_NotCircuit_OutOfRange => k_is)
    (case y_NotCircuit_OutOfRange => k_is)
    (case s_NotCircuit_OutOfRange => k_is)
    (case ne_NotCircuit_OutOfRange => decide)
    (case i_NotCircuit_NotCircuit => k_is)
    (case y_NotCircuit_NotCircuit => k_is)
    (case s_NotCircuit_NotCircuit => k_is)
    (case i_NotCircuit_TooLarge => k_is)
    (case y_NotCircuit_TooLarge => k_is)
    (case s_NotCircuit_TooLarge => k_is)
    (case ne_NotCircuit_TooLarge => decide)
    (case a__wall => k_is)
    (case l__wall => k_is)
    (case c__wall => k_is)
    (case k__wall => k_is)
    (case a_is_whole => k_is)
    (case l_is_whole => k_is)
    (case c_is_whole => k_is)
    (case k_is_whole => k_is)
    (case a_is_number => k_is)
    (case l_is_number => k_is)
    (case c_is_number => k_is)
    (case k_is_number => k_is)
    (case a_check_number => k_is)
    (case l_check_number => k_is)
    (case c_check_number => k_is)
    (case k_check_number => k_is)
    (case a_check_numbers => k_is)
    (case l_check_numbers => k_is)
    (case c_check_numbers => k_is)
    (case k_check_numbers => k_is)
    (case a_check_range => k_is)
    (case l_check_range => k_is)
    (case c_check_range => k_is)
    (case k_check_range => k_is)
    (case a_check_at_most => k_is)
    (case l_check_at_most => k_is)
    (case c_check_at_most => k_is)
    (case k_check_at_most => k_is)
    (case a_check_length => k_is)
    (case l_check_length => k_is)
    (case c_check_length => k_is)
    (case k_check_length => k_is)
    (case a_is_prime => k_is)
    (case l_is_prime => k_is)
    (case c_is_prime => k_is)
    (case k_is_prime => k_is)
    (case a_check_prime => k_is)
    (case l_check_prime => k_is)
    (case c_check_prime => k_is)
    (case k_check_prime => k_is)
    (case a_is_width => k_is)
    (case l_is_width => k_is)
    (case c_is_width => k_is)
    (case k_is_width => k_is)
    (case a_is_kind => k_is)
    (case l_is_kind => k_is)
    (case c_is_kind => k_is)
    (case k_is_kind => k_is)
    (case a_is_gate => k_is)
    (case l_is_gate => k_is)
    (case c_is_gate => k_is)
    (case k_is_gate => k_is)
    (case a_gate_value => k_is)
    (case l_gate_value => k_is)
    (case c_gate_value => k_is)
    (case k_gate_value => k_is)
    (case a_check_inputs => k_is)
    (case l_check_inputs => k_is)
    (case c_check_inputs => k_is)
    (case k_check_inputs => k_is)
    (case a_circuit_values => k_is)
    (case l_circuit_values => k_is)
    (case c_circuit_values => k_is)
    (case k_circuit_values => k_is)
    (case a__law_mix => k_is)
    (case l__law_mix => k_is)
    (case c__law_mix => k_is)
    (case k__law_mix => k_is)
    (case a__law_store => k_is)
    (case l__law_store => k_is)
    (case c__law_store => k_is)
    (case k__law_store => k_is)
    (case a__law_take => k_is)
    (case l__law_take => k_is)
    (case c__law_take => k_is)
    (case k__law_take => k_is)
    (case a__law_edge => k_is)
    (case l__law_edge => k_is)
    (case c__law_edge => k_is)
    (case k__law_edge => k_is)
    (case a__law_chance => k_is)
    (case l__law_chance => k_is)
    (case c__law_chance => k_is)
    (case k__law_chance => k_is)
    (case a__law_pick => k_is)
    (case l__law_pick => k_is)
    (case c__law_pick => k_is)
    (case k__law_pick => k_is)
    (case a__law_other_kind => k_is)
    (case l__law_other_kind => k_is)
    (case c__law_other_kind => k_is)
    (case k__law_other_kind => k_is)
    (case a__law_bad_integer => k_is)
    (case l__law_bad_integer => k_is)
    (case c__law_bad_integer => k_is)
    (case k__law_bad_integer => k_is)
    (case a__law_primes => k_is)
    (case l__law_primes => k_is)
    (case c__law_primes => k_is)
    (case k__law_primes => k_is)
    (case a__law_prime => k_is)
    (case l__law_prime => k_is)
    (case c__law_prime => k_is)
    (case k__law_prime => k_is)
    (case a__law_number => k_is)
    (case l__law_number => k_is)
    (case c__law_number => k_is)
    (case k__law_number => k_is)
    (case a__law_numbers => k_is)
    (case l__law_numbers => k_is)
    (case c__law_numbers => k_is)
    (case k__law_numbers => k_is)
    (case a__law_row => k_is)
    (case l__law_row => k_is)
    (case c__law_row => k_is)
    (case k__law_row => k_is)
    (case a__law_bad_number => k_is)
    (case l__law_bad_number => k_is)
    (case c__law_bad_number => k_is)
    (case k__law_bad_number => k_is)
    (case a__law_bad_row => k_is)
    (case l__law_bad_row => k_is)
    (case c__law_bad_row => k_is)
    (case k__law_bad_row => k_is)
    (case a__law_bad_prime => k_is)
    (case l__law_bad_prime => k_is)
    (case c__law_bad_prime => k_is)
    (case k__law_bad_prime => k_is)
    (case a__law_same => k_is)
    (case l__law_same => k_is)
    (case c__law_same => k_is)
    (case k__law_same => k_is)
    (case a__law_copy => k_is)
    (case l__law_copy => k_is)
    (case c__law_copy => k_is)
    (case k__law_copy => k_is)
    (case a__law_spoil_list => k_is)
    (case l__law_spoil_list => k_is)
    (case c__law_spoil_list => k_is)
    (case k__law_spoil_list => k_is)
    (case a__law_gates => k_is)
    (case l__law_gates => k_is)
    (case c__law_gates => k_is)
    (case k__law_gates => k_is)
    (case a__law_circuit => k_is)
    (case l__law_circuit => k_is)
    (case c__law_circuit => k_is)
    (case k__law_circuit => k_is)
    (case a__law_widths => k_is)
    (case l__law_widths => k_is)
    (case c__law_widths => k_is)
    (case k__law_widths => k_is)
    (case a__law_mixed => k_is)
    (case l__law_mixed => k_is)
    (case c__law_mixed => k_is)
    (case k__law_mixed => k_is)
    (case a__law_class_names => k_is)
    (case l__law_class_names => k_is)
    (case c__law_class_names => k_is)
    (case k__law_class_names => k_is)
    (case a__law_told => k_is)
    (case l__law_told => k_is)
    (case c__law_told => k_is)
    (case k__law_told => k_is)
    (case a__law_bits_told => k_is)
    (case l__law_bits_told => k_is)
    (case c__law_bits_told => k_is)
    (case k__law_bits_told => k_is)
    (case a__law_made => k_is)
    (case l__law_made => k_is)
    (case c__law_made => k_is)
    (case k__law_made => k_is)
    (case a__law_parts_are => k_is)
    (case l__law_parts_are => k_is)
    (case c__law_parts_are => k_is)
    (case k__law_parts_are => k_is)
    (case a__law_fits => k_is)
    (case l__law_fits => k_is)
    (case c__law_fits => k_is)
    (case k__law_fits => k_is)
    (case a__law_values_are => k_is)
    (case l__law_values_are => k_is)
    (case c__law_values_are => k_is)
    (case k__law_values_are => k_is)
    (case a__law_refused => k_is)
    (case l__law_refused => k_is)
    (case c__law_refused => k_is)
    (case k__law_refused => k_is)
    (case a_law => k_is)
    (case l_law => k_is)
    (case c_law => k_is)
    (case k_law => k_is)
    (case a_Circuit => k_is)
    (case pg_Circuit => k_is)
    (case hd_Circuit => k_is)
    (case po_Circuit => k_is)
    (case sa_Circuit => k_is)
    (case ma_Circuit___init__ => k_is)
    (case mf_Circuit___init__ => k_is)
    (case mk_Circuit___init__ => k_is)
    (case l_Circuit___init__ => k_is)
    (case c_Circuit___init__ => k_is)
    (case k_Circuit___init__ => k_is)
    (case ma_Circuit___eq__ => k_is)
    (case mf_Circuit___eq__ => k_is)
    (case mk_Circuit___eq__ => k_is)
    (case l_Circuit___eq__ => k_is)
    (case c_Circuit___eq__ => k_is)
    (case k_Circuit___eq__ => k_is)
    (case ma_Circuit_depth => k_is)
    (case mf_Circuit_depth => k_is)
    (case mk_Circuit_depth => k_is)
    (case mr_Circuit_depth => k_is)
    (case l_Circuit_depth => k_is)
    (case c_Circuit_depth => k_is)
    (case k_Circuit_depth => k_is)
    (case ma_Circuit_bits => k_is)
    (case mf_Circuit_bits => k_is)
    (case mk_Circuit_bits => k_is)
    (case l_Circuit_bits => k_is)
    (case c_Circuit_bits => k_is)
    (case k_Circuit_bits => k_is)
    (case ma_Circuit_text => k_is)
    (case mf_Circuit_text => k_is)
    (case mk_Circuit_text => k_is)
    (case l_Circuit_text => k_is)
    (case c_Circuit_text => k_is)
    (case k_Circuit_text => k_is)
    (case mm_Circuit => k_is)
    (case mi_Circuit => k_is)
    (case mn_Circuit => k_is)
    (case mp_Circuit => k_is)
    (case n_Circuit_layers => k_is)
    (case n_Circuit_width => k_is)
    (case n_Circuit_widths => k_is)
    (case xs_NotInField_NotPrime => k_is)
    (case xs_TalkError_NotPrime => k_is)
    (case xs_TalkError_NotInField => k_is)
    (case xs_NotInField_TalkError => k_is)
    (case xs_OutOfRange_NotPrime => k_is)
    (case xs_OutOfRange_NotInField => k_is)
    (case xs_OutOfRange_TalkError => k_is)
    (case xs_TooLarge_NotPrime => k_is)
    (case xs_TooLarge_NotInField => k_is)
    (case xs_TooLarge_TalkError => k_is)
    (case xs_WrongPlaces_NotPrime => k_is)
    (case xs_WrongPlaces_NotInField => k_is)
    (case xs_WrongPlaces_TalkError => k_is)
    (case xs_NotPrime_NotInField => k_is)
    (case xs_NotPrime_TalkError => k_is)
    (case xs_NotCircuit_NotPrime => k_is)
    (case xs_NotCircuit_NotInField => k_is)
    (case xs_NotCircuit_TalkError => k_is)
    (case kh_Circuit => k_is)
    (case kn_Circuit => k_is)
    (case kt_Circuit => k_is)
    (case km_Circuit => k_is)
    (case kc_Circuit => k_is)
    (case ky_Circuit => k_is)
    (case sb_Circuit_int => k_is)
    (case sb_Circuit_str => k_is)
    (case sb_Circuit_NoneType => k_is)
    (case sb_Circuit_bool => k_is)
    (case sb_Circuit_list => k_is)
    (case sb_Circuit_tuple => k_is)
    (case nl_Circuit => k_is)
    (case a_TABLE_LENGTHS => k_is)
    (case l_TABLE_LENGTHS => k_is)
    (case a_WIDTHS => k_is)
    (case l_WIDTHS => k_is)
    (case a_KINDS => k_is)
    (case l_KINDS => k_is)
    (case n_ValueError => k_is)
    (case n_max => k_is)
    (case n_range => k_is)
    (case n_tuple => k_is)
    (case n_list => k_is)
    (case n_isinstance => k_is)
    (case n_int => k_is)
    (case n_str => k_is)
    (case n_len => k_is)
    (case n_all => k_is)
    (case n_zip => k_is)
    (case n_bool => k_is)
    (case n_abs => k_is)
    (case n_min => k_is)
    (case hb => exact fun s v => .of_eq rfl)
