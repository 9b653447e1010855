import PyProof.Rows.All
import Wide.All
import OpenK.AllK
import Wide.FinOn
import PyProof.EqAt
import PyProof.EqKinds
import PyProof.TupleCall
import KE.KLam
import HandS.ForMost
import HandS.Exc
import HandS.TryOnly
import HandS.ExcOwn
import HandS.WordsExc
import HandS.Lambda
import HandS.HotCalls
import HandS.IsInst
import HandS.ExcIs
import HandS.RaiseMore
import HandS.FStr
import HandS.Style
import HandS.Wide
import HandS.Defaults
import HandS.CallLocal
import HandS.Head2
import HandS.HeadHook4
import HandS.HeadWalk
import HandS.SortInts
import HandS.TupSets
import HandS.TupAny
import HandS.Strs
import PySem.Challenge.RW_upanddowns_k54_full_trees_counted
set_option Elab.async false
set_option linter.all false
set_option maxRecDepth 100000
set_option maxHeartbeats 2000000
namespace Up
open PySem PySem.Spec PyProof.Rows L2
/-! ### a def of the text, told by its name -/
structure DefOk (P : Program) (w : World) (K : PySem.W.Frag) (mg : Str → Option Value) (base : Heap) (CX : CXT) (k : Nat) (x : Str) (ps : List Str) (sp : Sp) : Prop where
  gl : mg x = some (.ref (He.ga K x))
  kp : PySem.W.keepIn K (.ref (He.ga K x)) = true
  ex : ∃ fd, FnOk P w K mg base CX k (He.ga K x) fd ps sp ∧ Binds K fd ps []
theorem pe_callD {X : Cx} {CX : CXT} {k j : Nat} {x : Str} {ps : List Str} {sp : Sp} {E : XK} {e : Expr} {es : List Expr} {t : TA} {p pos : Pos} (D : DefOk X.prog X.w X.K X.mg X.base CX k x ps sp) (hr : Room j X.A) (hg : Gl X x) (hx : Passes CX X E) (ha : PA X (e :: es) t)
    (hj : k ≤ j := by decide) (hdb : (x == ("__debug__" : Str)) = false := by decide) (he : starEach (e :: es) X.env = (false, eval e X.env) :: starEach es X.env := by rfl) (hpl : (backTo pos (starEach es X.env)).any (·.1) = false := by rfl) :
    PE X (.Call (.Name x p) (e :: es) [] pos) (tCall sp [] E t) := by
  obtain ⟨fd, F, b⟩ := D.ex
  exact pe_call F (hr.mono hj) hg D.gl D.kp b .nil hx ha hdb he hpl
abbrev FnT (K : PySem.W.Frag) (x : Str) (st : Stmt) (fd : FuncData) : Prop := FunD K x x (defArgs st) (defBody st) (defScope st) [] [] (He.ga K x) fd
theorem def_of {P : Program} {w : World} {K : PySem.W.Frag} {mg : Str → Option Value} {base : Heap} {CX : CXT} {k : Nat} {x : Str} {ps : List Str} {sp : Sp} {st : Stmt} (d : ∃ fd, FnT K x st fd) (g : mg x = some (.ref (He.ga K x)))
    (hb : ∀ (kV doc pm : Value) (an : Option Addr) (cdv ct : Value) (us : List Value), us.length = ps.length → bindArgs (PySem.W.fnOf x x (defArgs st) (defBody st) (defScope st) .none kV doc pm an cdv ct) ⟨us, []⟩ = pure (ps.zip us))
    (h : ∀ fd, FnT K x st fd → FnOk P w K mg base CX k (He.ga K x) fd ps sp) : DefOk P w K mg base CX k x ps sp := by
  obtain ⟨fd, F⟩ := d
  exact ⟨g, F.kp, fd, h fd F, F.bindsN hb⟩
theorem passOut {X : Cx} {E : XK} (tk : Takes X (fun cls d _ H => E cls d H)) : Passes (L2.CX X.prog X.w) X E := passes_call tk fun _ _ _ _ h => h
theorem sz (n : Nat) (h : n ≤ 1000 := by decide) : n ≤ sizeLine := Nat.le_trans h (by decide)
theorem szl (n : Nat) (h : n ≤ 1000 := by decide) : n < sizeLine := Nat.lt_of_le_of_lt h (by decide)
/-! ### rules with the written part K told apart (for blocks, whose context is a term) -/
def rLenQ (K : PySem.W.Frag) : List V → Hp → VK → Prop := fun xs H Q => ∃ p ys, xs = [.ref p] ∧ (SqL K H p ys ∨ SqT K H p ys) ∧ Q (.int ys.length) H
theorem lenK {X : Cx} (K : PySem.W.Frag) (h : X.K = K := by rfl) : CallR X (.builtin "len") (rLenQ K) := by subst h; exact call_len_seq
theorem ixLK {X : Cx} (K : PySem.W.Frag) (h : X.K = K := by rfl) : IxR X (rIxL K) := by subst h; exact ix_list
theorem ixTK {X : Cx} (K : PySem.W.Frag) (h : X.K = K := by rfl) : IxR X (rIxT K) := by subst h; exact ix_tup
theorem revLK {X : Cx} (K : PySem.W.Frag) {e : Expr} {te : TE} {k : Nat} {p1 p2 p3 pos : Pos} (he : PE X e te) (h : X.K = K := by rfl) : PE X (.Subscript e (.Slice none none (some (.UnaryOp .USub (.Constant (.int 1) k p1) p2)) p3) pos) (tRevL K te) := by subst h; exact pe_revL he
theorem slLK {X : Cx} (K : PySem.W.Frag) (h : X.K = K := by rfl) : SlR X (rSlL K) := by subst h; exact sl_list
theorem slTK {X : Cx} (K : PySem.W.Frag) (h : X.K = K := by rfl) : SlR X (rSlT K) := by subst h; exact sl_tup
theorem isiK {X : Cx} (K : PySem.W.Frag) (h : X.K = K := by rfl) : CallR X (.builtin "isinstance") (rIsi K) := by subst h; exact call_isi
theorem sumK {X : Cx} (K : PySem.W.Frag) (hc : X.calm = true) (h : X.K = K := by rfl) : CallR X (.builtin "sum") (rSum K) := by subst h; exact cr_sum hc
theorem anyK {X : Cx} (K : PySem.W.Frag) (hc : X.calm = true) (h : X.K = K := by rfl) : CallR X (.builtin "any") (rAny K) := by subst h; exact cr_any hc
theorem allK {X : Cx} (K : PySem.W.Frag) (hc : X.calm = true) (h : X.K = K := by rfl) : CallR X (.builtin "all") (rAll K) := by subst h; exact cr_all hc
theorem eqDK {X : Cx} (K : PySem.W.Frag) (hu : X.A.units + 64 < cLine) (h : X.K = K := by rfl) : OpR X (compareOp .Eq) (rEqD K) := by subst h; exact op_eqD hu
theorem neDK {X : Cx} (K : PySem.W.Frag) (hu : X.A.units + 64 < cLine) (h : X.K = K := by rfl) : OpR X (compareOp .NotEq) (rNeD K) := by subst h; exact op_neD hu
theorem inK {X : Cx} (K : PySem.W.Frag) (h : X.K = K := by rfl) : OpR X (compareOp .In) (rIn K false) := by subst h; exact op_in_seq
theorem notInK {X : Cx} (K : PySem.W.Frag) (h : X.K = K := by rfl) : OpR X (compareOp .NotIn) (rIn K true) := by subst h; exact op_notIn_seq
theorem catTK {X : Cx} (K : PySem.W.Frag) (h : X.K = K := by rfl) : OpR X (binaryOp .Add) (rCatT K) := by subst h; exact op_catT
/-! ### heaps -/
theorem same_new {H : Hp} {p : Addr} {o : HO} (h : H p = none) : Same H (upd H p o) := fun b x e => by
  rw [upd_ne (ne_of_none e h)]; exact e
theorem Same.ext {H H' : Hp} (s : Same H H') : LamX.ExtN H H' := fun b o h _ => s b o h
theorem ext_seq {K : PySem.W.Frag} {H H' : Hp} {a : Addr} {xs : List V} (e : LamX.ExtN H H') (h : SqL K H a xs) : SqL K H' a xs := by
  rcases h with (h | ⟨o, h⟩) | h
  · exact .inl (.inl (e _ _ h (fun _ z => by cases z)))
  · exact .inl (.inr ⟨o, e _ _ h (fun _ z => by cases z)⟩)
  · exact .inr h
theorem ext_set {H H' : Hp} {p : Addr} {o : HO} (e : LamX.ExtN H H') (n : H p = none) : LamX.ExtN H (upd H' p o) := fun b u h z => by
  rw [upd_ne (ne_of_none h n)]; exact e b u h z
theorem same_set {H H' : Hp} {p : Addr} {o : HO} (e : Same H H') (n : H p = none) : Same H (upd H' p o) := fun b u h => by
  rw [upd_ne (ne_of_none h n)]; exact e b u h
theorem tabs_same {T : List (Addr × Str)} {H H' : Hp} (t : LamX.Tabs T H) (s : Same H H') : LamX.Tabs T H' := t.ext s
/-- a list that no table and no code object stands at is changed -/
theorem tabs_upd {T : List (Addr × Str)} {H : Hp} {p : Addr} {xs : List V} {o : HO} (t : LamX.Tabs T H) (n : H p = some (.lst xs)) : LamX.Tabs T (upd H p o) := fun q hq => by
  obtain ⟨ps, h1, h2, h3⟩ := t q hq
  refine ⟨ps, ?_, h2, fun pos cv hc => ?_⟩
  · rw [upd_ne (ne_of h1 n (by intro z; cases z))]; exact h1
  · obtain ⟨c, e1, e2⟩ := h3 pos cv hc
    refine ⟨c, e1, ?_⟩
    rw [upd_ne (ne_of e2 n (by intro z; unfold LamX.CodeO at z; cases z))]; exact e2
/-! ### a def called while an exception is handled: the exception's object p stands -/
structure FnPin (P : Program) (w : World) (K : PySem.W.Frag) (mg : Str → Option Value) (base : Heap) (k : Nat) (f : Addr) (fd : FuncData) (ps : List Str) (sp : Addr × Obj → Sp) : Prop where
  len : ∀ p vs H Q E, sp p vs H Q E → vs.length = ps.length
  run : ∀ A outer s H args us vs Q E p, L2H.RoomH k A → L2H.PinOk outer H s p → Env0 P w K mg base A outer s H → BindsTo s fd args (ps.zip us) → Vals vs us → sp p vs H Q E →
    codeAny (model P w) A (.call (.ref f) args) (CR CX0 outer P w H s Q E) s
theorem pin_of {P : Program} {w : World} {K : PySem.W.Frag} {mg : Str → Option Value} {base : Heap} {k : Nat} {f : Addr} {x : Str} {prm : Arguments} {bd : List Stmt} {sc : Scope} {fd : FuncData} {N ps : List Str} {sp : Addr × Obj → Sp}
    (F : FunD K x x prm bd sc [] [] f fd) (S : FnScope N ps sc) (len : ∀ p vs H Q E, sp p vs H Q E → vs.length = ps.length)
    (hb : ∀ (cd : Value) (A : Around) (outer : List Env) (s : Shared) (H : Hp) (vs : List V) (Q : VK) (E : XK) (p : Addr × Obj), L2H.RoomH k (A.deeper (envOfC x sc s.heap.objs.size f cd)) → sp p vs H Q E →
      ∃ t, PSs (L2H.cxH CX0 P w K mg base N x sc f cd A outer s H E p) bd t ∧ t { nx := fun _ H' => Q .non H', rt := Q } (start N vs) H) : FnPin P w K mg base (k + 1) f fd ps sp := by
  obtain ⟨oc, od, dV, kV, doc, pm, an, cd, ct, osl, rfl, lk, hcd, _, _⟩ := F.ex
  refine ⟨len, ?_⟩
  intro A outer s H args us vs Q E p room pin e0 bind r hsp
  have inK : K.In s.heap := e0.mod.kin.keeps (fun b o e => (e0.bs b o e).1)
  have nolim : s.heap.NoLimit := e0.mod.nolimit.keeps (fun b o e => (e0.bs b o e).1)
  have kinds : ∀ y ∈ ps.zip us, sc.names.lookup y.1 = some .local ∨ (sc.names.lookup y.1 = some .cell ∧ ((cellsFrom (s.heap.objs.size + 1) sc.names []).lookup y.1).isSome = true) := by
    rintro ⟨n, v⟩ hy
    cases S.par n (List.of_mem_zip hy).1 with
    | inl q => exact Or.inl q
    | inr q => exact Or.inr ⟨q, PySem.W.cellsFrom_some _ _ _ (Or.inl q)⟩
  apply codeAny_call_function room.depth (inK _ _ lk) rfl S.co S.gen rfl (PySem.W.codeRec_of inK hcd)
  apply bind
  apply wpAny_newFunctionEnv_cells S.kind kinds
  intro env he s1 x1
  subst he
  refine ⟨nolim.keeps x1.toInCall.keep, codeAny_func ?_⟩
  obtain ⟨t, ht, q0⟩ := hb cd A outer s H vs Q E p (room.deeper _) hsp
  have I := L2H.inv_startH (CX := CX0) (P := P) (mg := mg) (E := E) S pin e0 (len _ _ _ _ _ hsp) r x1
  apply wpAny_mono (ht.run [] s1 (start N vs) H _ I q0)
  · intro fl s' hs
    cases fl with
    | ret u => obtain ⟨v, _, H', J, rv, z⟩ := hs; exact ⟨v, H', J.os, J.bare, J.base, J.hok, rv, z⟩
    | next => obtain ⟨_, H', J, z⟩ := hs; exact ⟨.non, H', J.os, J.bare, J.base, J.hok, rfl, z⟩
    | brk => obtain ⟨_, _, _, z⟩ := hs; exact z.elim
    | cont => obtain ⟨_, _, _, z⟩ := hs; exact z.elim
  · intro e s' hs
    exact hs
/-- such a def told by its name -/
structure PinOkD (P : Program) (w : World) (K : PySem.W.Frag) (mg : Str → Option Value) (base : Heap) (k : Nat) (x : Str) (ps : List Str) (sp : Addr × Obj → Sp) : Prop where
  gl : mg x = some (.ref (He.ga K x))
  kp : PySem.W.keepIn K (.ref (He.ga K x)) = true
  ex : ∃ fd, FnPin P w K mg base k (He.ga K x) fd ps sp ∧ Binds K fd ps []
theorem pindef_of {P : Program} {w : World} {K : PySem.W.Frag} {mg : Str → Option Value} {base : Heap} {k : Nat} {x : Str} {ps : List Str} {sp : Addr × Obj → Sp} {st : Stmt} (d : ∃ fd, FnT K x st fd) (g : mg x = some (.ref (He.ga K x)))
    (hb : ∀ (kV doc pm : Value) (an : Option Addr) (cdv ct : Value) (us : List Value), us.length = ps.length → bindArgs (PySem.W.fnOf x x (defArgs st) (defBody st) (defScope st) .none kV doc pm an cdv ct) ⟨us, []⟩ = pure (ps.zip us))
    (h : ∀ fd, FnT K x st fd → FnPin P w K mg base k (He.ga K x) fd ps sp) : PinOkD P w K mg base k x ps sp := by
  obtain ⟨fd, F⟩ := d
  exact ⟨g, F.kp, fd, h fd F, F.bindsN hb⟩
def tCallP (sp : Addr × Obj → Sp) (q : Addr × Obj) (E : XK) (t : TA) : TE := fun σ H Q => t σ H fun vs H1 => sp q vs H1 Q E
theorem pe_callP {X : Cx} {k : Nat} {x : Str} {ps : List Str} {sp : Addr × Obj → Sp} {E : XK} {e : Expr} {es : List Expr} {t : TA} {p pos : Pos} {q : Addr × Obj} (D : PinOkD X.prog X.w X.K X.mg X.base k x ps sp) (hr : L2H.RoomH k X.A) (hq : q ∈ X.pn) (hg : Gl X x) (ha : PA X (e :: es) t)
    (hdb : (x == ("__debug__" : Str)) = false := by decide) (he : starEach (e :: es) X.env = (false, eval e X.env) :: starEach es X.env := by rfl) (hpl : (backTo pos (starEach es X.env)).any (·.1) = false := by rfl) :
    PE X (.Call (.Name x p) (e :: es) [] pos) (tCallP sp q E t) := by
  obtain ⟨fd, F, hb⟩ := D.ex
  constructor
  intro pins s σ H Q I h
  apply wpAny_Call_Name_kw
  apply ld_glob I hg D.gl _ hdb
  refine PySem.W.callWith_K (h₀ := X.base) I.ok.mod.kin D.kp (thn (ha.run pos pins s σ H _ I h) ?_) he hpl
  rintro us s1 ⟨vs, H1, I1, r, z⟩
  refine ⟨I1.kIn, ?_⟩
  have hl : us.length = ps.length := r.length ▸ F.len _ _ _ _ _ z
  have b := hb s1 us I1.kIn (by rw [List.append_nil]; exact hl)
  rw [List.append_nil] at b
  obtain ⟨p1, p2, p3, p4, p5⟩ := I1.pin q (List.mem_append_left _ hq)
  have pin : L2H.PinOk X.stack H1 s1 q := by
    refine ⟨p1, p2, fun hm => ?_, p5⟩
    cases List.mem_cons.mp (I1.stkSub q.1 hm) with
    | inl z => exact p3 z
    | inr z => exact p4 z
  apply wpAny_call
  apply codeAny_mono (F.run X.A X.stack s1 H1 ⟨us, []⟩ us vs Q E q hr pin I1.env0 b r z)
  intro rr s' hq'
  cases rr with
  | error e => exact (show False from hq').elim
  | ok fl =>
    cases fl with
    | ret u => exact I1.after hq'
    | next => exact False.elim hq'
    | brk => exact False.elim hq'
    | cont => exact False.elim hq'
theorem roomH_mark {k : Nat} {A : Around} {v : Option Value} (r : Room k A) : L2H.RoomH k (A.mark v) := ⟨r.dp, r.un⟩
/-! ### isinstance of such an exception; count in a list of flat things -/
theorem call_isPin {X : Cx} {D : Addr} {q : Addr × Obj} (C : ExcC X.K D) (hz : Zc (.ref D) none q.2) (hf : ∃ vs, q.2.data = .fields vs) (hm : q ∈ X.pn) : CallR X (.builtin "isinstance") (rIsE X.K D q.1) := by
  intro pins s σ H xs us Q I r h
  obtain ⟨c, cv, b, rfl, hcv, e, z⟩ := h
  obtain ⟨u1, u2, rfl, r1, r2⟩ := vals2 r
  obtain rfl : u1 = Value.ref q.1 := r1
  obtain rfl := hcv _ r2
  have hget := (I.pin q (List.mem_append_left _ hm)).1
  obtain ⟨vs, hv⟩ := hf
  have J : PySem.W.InstAt s.heap q.1 q.2 D none := by
    obtain ⟨qa, oc, od, dt, sl⟩ := q
    obtain ⟨z1, z2⟩ := hz
    simp only at z1 z2 hv
    subst z1 z2 hv
    exact ⟨hget, rfl, rfl, trivial⟩
  refine PySem.W.kia_one (PySem.W.handS_kitx_exc C.hg C.hk C.hs C.hd C.ha C.hn C.ht C.hm) I.kIn J e (fun y => nomatch y) ?_
  exact fun tk => ⟨.bl b, H, I.kept (t' := tk) (fun _ _ y => y), rfl, z⟩
theorem countP_eqU {y : V} : ∀ {ys : List V} {us : List Value}, Vals ys us → ys.all flatV = true → us.countP (eqU y) = ys.countP fun z => eqV z y
  | [], _, r, _ => by cases r; rfl
  | z :: zs, _, r, f => by
    cases r with
    | cons r1 r2 =>
      rw [List.all_cons, Bool.and_eq_true] at f
      rw [List.countP_cons, List.countP_cons, countP_eqU r2 f.2, eqU_of r1 f.1]
def rCountF (K : PySem.W.Frag) : V → List V → Hp → VK → Prop := fun x xs H Q => ∃ (a : Addr) (ys : List V) (y : V), x = .ref a ∧ xs = [y] ∧ SqL K H a ys ∧ flatV y = true ∧ ys.all flatV = true ∧ Q (.int ((ys.countP fun z => eqV z y : Nat) : Int)) H
theorem mt_countF {X : Cx} : MtR X "list.count" (rCountF X.K) := by
  intro pins s σ H x xs v us Q I rx rxs h
  obtain ⟨a, ys, y, rfl, rfl, hs, fy, fys, q⟩ := h
  obtain rfl : v = Value.ref a := rx
  obtain ⟨u, rfl, ru⟩ := rxs.one
  obtain ⟨its, rv, ⟨⟨cls, dd, data, sl⟩, n, ho, hc, hdn, hd⟩, hlen⟩ := I.list hs
  simp only at hc hd
  subst hc hd
  refine call_meets PySem.F.slot_list_count ⟨_, ho, rfl⟩ PySem.F.entry_list_count (PySem.F.args_list_count_2 _ _) (SeqAt.list_countAt a its.toArray n dd sl u (eqU y)) ⟨ho, fun u' hu' => mem_eqAt ru fy rv fys u' (by simpa using hu'), ?_⟩
  have ec : its.toArray.toList.countP (eqU y) = ys.countP fun z => eqV z y := by simpa using countP_eqU rv fys
  exact ⟨.int ((ys.countP fun z => eqV z y : Nat) : Int), H, I.tok _, ⟨s.toks, by rw [← ec]⟩, q⟩
/-! ### the refusals: which class an exception is of -/
def kinds : List Str := ["NoOrder", "NoNumber", "NoRow", "NotUpDown", "NoPattern", "NoTree", "NoLoose", "NoRing", "NoFraction", "NoText", "NoDeed", "NoLine"]
def words : List Str := ["order", "number", "row", "updown", "pattern", "tree", "loose", "ring", "fraction", "text", "deed", "line"]
def words2 : List Str := []
def kindsAt (j : Nat) : List V := [.bl (decide (0 = j)), .bl (decide (1 = j)), .bl (decide (2 = j))] ++ [.bl (decide (3 = j)), .bl (decide (4 = j)), .bl (decide (5 = j))] ++ [.bl (decide (6 = j)), .bl (decide (7 = j)), .bl (decide (8 = j))] ++ [.bl (decide (9 = j)), .bl (decide (10 = j)), .bl (decide (11 = j))]
theorem kinds_count : ∀ j, j < 12 → (kindsAt j).countP (fun z => eqV z (.bl true)) = 1 := by decide
theorem kinds_here : ∀ j, j < 12 → (kindsAt j)[j]? = some (.bl true) := by decide
theorem kinds_ahead : ∀ j, j < 12 → ∀ m, m < j → (kindsAt j)[m]? = some (.bl false) := by decide
theorem kinds_flat (j : Nat) : (kindsAt j).all flatV = true := rfl
structure ClassIs (K : PySem.W.Frag) (C : Addr) (j : Nat) : Prop where
  lt : j < 12
  exc : ExcC K C
  turn : PySem.W.kitOne K (.ref C) (.ref (He.ga K "TurnError")) = some true
  val : PySem.W.kitOne K (.ref C) (.type "ValueError") = some true
  caught : PySem.W.exmOne K (.ref C) (.ref (He.ga K "TurnError")) = some true
  each : ∀ i x, kinds[i]? = some x → PySem.W.kitOne K (.ref C) (.ref (He.ga K x)) = some (decide (i = j))
def excB (K : PySem.W.Frag) (D : Addr) : Bool := He.eqO (PySem.W.findIn K (.ref D) "__getattribute__") (some (some (.builtin "BaseException.__getattribute__"))) && (He.eqO (PySem.W.findIn K (.ref D) "__getattr__") (some none) && (decide (PySem.W.subIn K (.ref D) (.type "BaseException") = some true) &&
  (PySem.W.hasDictIn K D && (He.eqO (PySem.W.findIn K (.ref D) "__class__") (some (some (.builtin "object.__class__"))) && (He.eqO (PySem.W.specialIn K (.builtin "object.__class__") "__get__") (some (some (.builtin "getset_descriptor.__get__"))) && (decide (PySem.W.takesIn K (.builtin "object.__class__") = some true) && decide (PySem.W.mroIn K D (.type "object") = some true)))))))
theorem excB_ok {K : PySem.W.Frag} {D : Addr} (h : excB K D = true) : ExcC K D := by
  obtain ⟨h1, h⟩ := He.ba h
  obtain ⟨h2, h⟩ := He.ba h
  obtain ⟨h3, h⟩ := He.ba h
  obtain ⟨h4, h⟩ := He.ba h
  obtain ⟨h5, h⟩ := He.ba h
  obtain ⟨h6, h⟩ := He.ba h
  obtain ⟨h7, h8⟩ := He.ba h
  exact ⟨He.eqO_ok h1, He.eqO_ok h2, of_decide_eq_true h3, h4, He.eqO_ok h5, He.eqO_ok h6, of_decide_eq_true h7, of_decide_eq_true h8⟩
def classB (K : PySem.W.Frag) (j : Nat) (x : Str) : Bool := decide (j < 12) && (excB K (He.ga K x) && (decide (PySem.W.kitOne K (.ref (He.ga K x)) (.ref (He.ga K "TurnError")) = some true) && (decide (PySem.W.kitOne K (.ref (He.ga K x)) (.type "ValueError") = some true) && (decide (PySem.W.exmOne K (.ref (He.ga K x)) (.ref (He.ga K "TurnError")) = some true) &&
  (List.range 12).all fun i => decide (PySem.W.kitOne K (.ref (He.ga K x)) (.ref (He.ga K (kinds.getD i ""))) = some (decide (i = j)))))))
theorem classB_ok {K : PySem.W.Frag} {j : Nat} {x : Str} (h : classB K j x = true) : ClassIs K (He.ga K x) j := by
  obtain ⟨h1, h⟩ := He.ba h
  obtain ⟨h2, h⟩ := He.ba h
  obtain ⟨h3, h⟩ := He.ba h
  obtain ⟨h4, h⟩ := He.ba h
  obtain ⟨h5, h6⟩ := He.ba h
  refine ⟨of_decide_eq_true h1, excB_ok h2, of_decide_eq_true h3, of_decide_eq_true h4, of_decide_eq_true h5, fun i x' e => ?_⟩
  have hi : i < 12 := (List.getElem?_eq_some_iff.mp e).1
  have z := of_decide_eq_true (List.all_eq_true.mp h6 i (List.mem_range.mpr hi))
  have ex : kinds.getD i "" = x' := by rw [List.getD_eq_getElem?_getD, e]; rfl
  rw [ex] at z
  exact z
/-! ### a thing of whatever kind -/
def tyNames : List String := ["int", "bool", "NoneType", "str", "tuple", "list", "dict"]
theorem kit_int : ∀ ty ∈ tyNames, kitB ty "int" = some (ty == "int" || ty == "bool") := by decide +kernel
theorem kit_bool : ∀ ty ∈ tyNames, kitB ty "bool" = some (ty == "bool") := by decide +kernel
theorem kit_whole : ∀ ty ∈ tyNames, (ty == "int" || ty == "bool") = true → (!(ty == "bool")) = (ty == "int") := by decide
theorem kit_str : ∀ ty ∈ tyNames, kitB ty "str" = some (ty == "str") := by decide +kernel
theorem kit_tuple : ∀ ty ∈ tyNames, kitB ty "tuple" = some (ty == "tuple") := by decide +kernel
theorem kit_list : ∀ ty ∈ tyNames, kitB ty "list" = some (ty == "list") := by decide +kernel
/-- b: it is a whole number -/
structure Thing (K : PySem.W.Frag) (H : Hp) (x : V) (b : Bool) : Prop where
  ex : ∃ ty, TyX K H x (.type ty) ∧ ty ∈ tyNames ∧ (ty == "int") = b
  int : b = true → ∃ i, x = .int i
  non : b = false → ∀ i, x ≠ .int i
theorem thing_int {K : PySem.W.Frag} {H : Hp} (i : Int) : Thing K H (.int i) true := ⟨⟨"int", .base (.int i), by decide, rfl⟩, fun _ => ⟨i, rfl⟩, fun z => nomatch z⟩
theorem thing_bl {K : PySem.W.Frag} {H : Hp} (c : Bool) : Thing K H (.bl c) false := ⟨⟨"bool", .base (.bl c), by decide, rfl⟩, (fun z => nomatch z), fun _ _ z => nomatch z⟩
theorem thing_non {K : PySem.W.Frag} {H : Hp} : Thing K H .non false := ⟨⟨"NoneType", .base .non, by decide, rfl⟩, (fun z => nomatch z), fun _ _ z => nomatch z⟩
theorem thing_str {K : PySem.W.Frag} {H : Hp} (x : Str) : Thing K H (.str x) false := ⟨⟨"str", .base (.str x), by decide, rfl⟩, (fun z => nomatch z), fun _ _ z => nomatch z⟩
theorem thing_tup {K : PySem.W.Frag} {H : Hp} {a : Addr} {xs : List V} (e : H a = some (.tup xs)) : Thing K H (.ref a) false := ⟨⟨"tuple", .base (.tup e), by decide, rfl⟩, (fun z => nomatch z), fun _ _ z => nomatch z⟩
theorem thing_lst {K : PySem.W.Frag} {H : Hp} {a : Addr} {xs : List V} (e : H a = some (.lst xs)) : Thing K H (.ref a) false := ⟨⟨"list", .base (.lst e), by decide, rfl⟩, (fun z => nomatch z), fun _ _ z => nomatch z⟩
theorem thing_dic {K : PySem.W.Frag} {H : Hp} {a : Addr} {xs : List (Key × V)} (e : H a = some (.dK xs)) : Thing K H (.ref a) false := ⟨⟨"dict", .base (.dK e), by decide, rfl⟩, (fun z => nomatch z), fun _ _ z => nomatch z⟩
def NumOk (x : V) (a b : Int) : Prop := ∃ i, x = .int i ∧ a ≤ i ∧ i ≤ b
/-! ### data -/
def intsD (ns : List Int) : PyData := .list (ns.map PyData.int)
theorem dp_ints {K : PySem.W.Frag} {H : Hp} : ∀ ns : List Int, DpAll K H (ns.map V.int) (ns.map PyData.int)
  | [] => .nil
  | n :: r => .cons (.int n) (dp_ints r)
theorem dp_list {K : PySem.W.Frag} {H : Hp} {a : Addr} {ns : List Int} (h : SqL K H a (ns.map V.int)) : Dp K H (.ref a) (intsD ns) := .lst h (dp_ints ns)
theorem lay_ints : ∀ ns : List Int, PyData.canLayAll0 (ns.map PyData.int) = true
  | [] => rfl
  | n :: r => by
    show (PyData.canLay0 (.int n) && PyData.canLayAll0 (r.map PyData.int)) = true
    rw [lay_ints r]; rfl
theorem depth_ints : ∀ ns : List Int, PyData.depthAll (ns.map PyData.int) = 0
  | [] => rfl
  | n :: r => by
    show max (PyData.depth (.int n)) (PyData.depthAll (r.map PyData.int)) = 0
    rw [depth_ints r]; rfl
theorem shaped_ints (ns : List Int) : SeqAt.shaped (intsD ns) = true := by
  show ((PyData.canLayAll0 (ns.map PyData.int)) && decide (PyData.depthAll (ns.map PyData.int) + 1 ≤ 64)) = true
  rw [lay_ints, depth_ints]; rfl
theorem eqv_ints (ns : List Int) : PyData.eqv (intsD ns) (intsD ns) = true := SeqAt.eqv_refl _ (show PyData.canLay0 (intsD ns) = true from lay_ints ns)
def rowsD (rs : List (List Int)) : PyData := .list (rs.map intsD)
theorem lay_rows : ∀ rs : List (List Int), PyData.canLayAll0 (rs.map intsD) = true
  | [] => rfl
  | n :: r => by
    show (PyData.canLayAll0 (n.map PyData.int) && PyData.canLayAll0 (r.map intsD)) = true
    rw [lay_rows r, lay_ints]; rfl
theorem depth_rows : ∀ rs : List (List Int), PyData.depthAll (rs.map intsD) ≤ 1
  | [] => Nat.zero_le _
  | n :: r => by
    show max (PyData.depthAll (n.map PyData.int) + 1) (PyData.depthAll (r.map intsD)) ≤ 1
    have z := depth_rows r
    rw [depth_ints]; omega
theorem shaped_rows (rs : List (List Int)) : SeqAt.shaped (rowsD rs) = true := by
  show ((PyData.canLayAll0 (rs.map intsD)) && decide (PyData.depthAll (rs.map intsD) + 1 ≤ 64)) = true
  have z := depth_rows rs
  rw [lay_rows, decide_eq_true (by omega)]; rfl
theorem eqv_rows (rs : List (List Int)) : PyData.eqv (rowsD rs) (rowsD rs) = true := SeqAt.eqv_refl _ (show PyData.canLay0 (rowsD rs) = true from lay_rows rs)
/-- _law_class: the word of the class that the exception is of -/
def spClass (K : PySem.W.Frag) (p : Addr × Obj) : Sp := fun vs H Q _ => vs = [.ref p.1] ∧ ∃ C j wd, Zc (.ref C) none p.2 ∧ (∃ fs, p.2.data = .fields fs) ∧ ClassIs K C j ∧ (words ++ words2)[j]? = some wd ∧ ∀ H', Same H H' → Q (.str wd) H'
/-! ### the promises that many laws share -/
def spWhole (K : PySem.W.Frag) : Sp := fun vs H Q _ => ∃ x b, vs = [x] ∧ Thing K H x b ∧ Q (.bl b) H
/-- the message's parts are short -/
def Short (a : Int) : Prop := a.natAbs.log2 < 1920 ∧ (Str.empty ++ ("the number is not from " : Str) ++ (toString a : Str)).length ≤ sizeLine ∧ (Str.empty ++ ("the number is not from " : Str) ++ (toString a : Str) ++ (" to " : Str)).length ≤ sizeLine
def spNeed (K : PySem.W.Frag) (C : Addr) : Sp := fun vs H Q E => ∃ x a b z, vs = [x, .int a, .int b] ∧ Short a ∧ (b.natAbs.log2 < 1920 ∧ (Str.empty ++ ("the number is not from " : Str) ++ (toString a : Str) ++ (" to " : Str) ++ (toString b : Str)).length ≤ sizeLine) ∧ Thing K H x z ∧
  (NumOk x a b → Q .non H) ∧ (¬ NumOk x a b → E (.ref C) none H)
def spCellAt (K : PySem.W.Frag) : Sp := fun vs H Q _ => ∃ (a : Addr) (ns : List Int) (i : Nat), vs = [.ref a, .int (i : Int)] ∧ SqL K H a (ns.map V.int) ∧ ∀ c, Q (.int c) H
def spDraw : Sp := fun vs H Q _ => ∃ c k b : Int, vs = [.int c, .int k, .int b] ∧ 0 ≤ k ∧ k < 1048576 ∧ 0 < b ∧ b < 1073741824 ∧ ∀ r, 0 ≤ r → r < b → Q (.int r) H
def spNoNumber (K : PySem.W.Frag) : Sp := fun vs H Q _ => ∃ c k a b : Int, vs = [.int c, .int k, .int a, .int b] ∧ 0 ≤ k ∧ k < 1048576 ∧ -1000 ≤ a ∧ a ≤ 1000 ∧ a ≤ b ∧ b < 10 ^ 30 ∧ ∀ v z H', Same H H' → Thing K H' v z → ¬ NumOk v a b → Q v H'
/-! ### x(lambda: ..), where x tells the word of what is raised -/
def TRef (K : PySem.W.Frag) : (XK → Hp → VK → Prop) → Hp → VK → Prop := fun tl H Q => tl (fun cls d H' => d = none ∧ ∃ C j wd, cls = .ref C ∧ ClassIs K C j ∧ (words ++ words2)[j]? = some wd ∧ ∀ H'', Same H' H'' → Q (.str wd) H'') H (fun _ H' => ∃ v, some (some (V.str "told")) = some (some v) ∧ Q v H')
def tExc (K : PySem.W.Frag) (i : Nat) (a : Addr) (cls : Value) (d : Option Addr) : TE := fun σ H Q => σ[i]? = some (some (.ref a)) ∧ d = none ∧ ∃ C j wd, cls = .ref C ∧ ClassIs K C j ∧ (words ++ words2)[j]? = some wd ∧ ∀ H', Same H H' → Q (.str wd) H'
theorem takes_len {X : Cx} {W : WX} (t : Takes X W) : Takes X (fun c d σ H => σ.length = X.N.length → W c d σ H) := by
  rintro u s' ⟨a, B, sI, pins, σ, H, cls, d, e, I, nb, up, sky, na, os, ag, hw⟩
  exact t u s' ⟨a, B, sI, pins, σ, H, cls, d, e, I, nb, up, sky, na, os, ag, hw I.len⟩
/-! ### a call of a local name that holds one of several defs, which may raise -/
structure HeldX (P : Program) (w : World) (K : PySem.W.Frag) (mg : Str → Option Value) (base : Heap) (k : Nat) (sp : Sp) (f : Addr) : Prop where
  kp : PySem.W.keepIn K (.ref f) = true
  ex : ∃ fd ps, FnOk P w K mg base (L2.CX P w) k f fd ps sp ∧ Binds K fd ps []
theorem held_of {P : Program} {w : World} {K : PySem.W.Frag} {mg : Str → Option Value} {base : Heap} {k j : Nat} {x : Str} {ps : List Str} {sp sp' : Sp} (D : DefOk P w K mg base (L2.CX P w) k x ps sp) (hj : k ≤ j) (h : ∀ vs H Q E, sp' vs H Q E → sp vs H Q E) : HeldX P w K mg base j sp' (He.ga K x) := by
  obtain ⟨fd, F, b⟩ := D.ex
  exact ⟨D.kp, fd, ps, (F.mono hj).imp h, b⟩
def tCallM (i : Nat) (fs : List Addr) (sp : Sp) (E : XK) (t : TA) : TE := fun σ H Q => ∃ f, σ[i]? = some (some (.ref f)) ∧ f ∈ fs ∧ t σ H fun vs H1 => sp vs H1 Q E
theorem pe_callM {X : Cx} {k j i : Nat} {fs : List Addr} {sp : Sp} {E : XK} {x : Str} {p pos : Pos} {e : Expr} {es : List Expr} {t : TA} (F : ∀ f ∈ fs, HeldX X.prog X.w X.K X.mg X.base k sp f) (hr : Room j X.A) (hN : X.N[i]? = some x) (hv : Vis X.env.scope x) (hx : Passes (L2.CX X.prog X.w) X E) (ha : PA X (e :: es) t)
    (hj : k ≤ j := by decide) (hdb : (x == ("__debug__" : Str)) = false := by decide) (hcd : (x == ("__classdict__" : Str)) = false := by decide) (he : starEach (e :: es) X.env = (false, eval e X.env) :: starEach es X.env := by rfl) (hpl : (backTo pos (starEach es X.env)).any (·.1) = false := by rfl) :
    PE X (.Call (.Name x p) (e :: es) [] pos) (tCallM i fs sp E t) := by
  constructor
  rintro pins s σ H Q I ⟨f, h1, h2, h3⟩
  obtain ⟨kp, fd, ps, G, b⟩ := F f h2
  refine (pe_callL (f := f) (dvs := []) (ds := []) G (hr.mono hj) hN hv kp b .nil hx ha hdb hcd he hpl).run pins s σ H Q I ⟨h1, ?_⟩
  have e0 : (fun (vs : List V) (H1 : Hp) => sp (vs ++ []) H1 Q E) = fun vs H1 => sp vs H1 Q E := by
    funext vs H1; rw [List.append_nil]
  show t σ H (fun vs H1 => sp (vs ++ []) H1 Q E)
  rw [e0]
  exact h3
/-! ### things stay -/
theorem tyx_ext {K : PySem.W.Frag} {H H' : Hp} {x : V} {t : Value} (e : LamX.ExtN H H') (h : TyX K H x t) : TyX K H' x t := by
  cases h with
  | base b =>
    cases b with
    | non => exact .base .non
    | bl c => exact .base (.bl c)
    | int i => exact .base (.int i)
    | str y => exact .base (.str y)
    | flt y => exact .base (.flt y)
    | lst z => exact .base (.lst (e _ _ z fun _ q => by cases q))
    | frz z => exact .base (.frz (e _ _ z fun _ q => by cases q))
    | tup z => exact .base (.tup (e _ _ z fun _ q => by cases q))
    | dK z => exact .base (.dK (e _ _ z fun _ q => by cases q))
    | dT z => exact .base (.dT (e _ _ z fun _ q => by cases q))
    | ins z cl ha hn htk hm => exact .base (.ins (e _ _ z fun _ q => by cases q) cl ha hn htk hm)
  | byt b => exact .byt b
  | set z => exact .set (e _ _ z fun _ q => by cases q)
  | kList z c => exact .kList z c
  | kTuple z c => exact .kTuple z c
  | kDict z c => exact .kDict z c
  | fTuple z => exact .fTuple (e _ _ z fun _ q => by cases q)
  | fDict z => exact .fDict (e _ _ z fun _ q => by cases q)
theorem thing_ext {K : PySem.W.Frag} {H H' : Hp} {x : V} {b : Bool} (e : LamX.ExtN H H') (h : Thing K H x b) : Thing K H' x b := by
  obtain ⟨ty, z, m, q⟩ := h.ex
  exact ⟨⟨ty, tyx_ext e z, m, q⟩, h.int, h.non⟩
def spBad (K : PySem.W.Frag) (C : Addr) (a b : Int) : Sp := fun vs H _ E => ∃ x z, vs = [x] ∧ Thing K H x z ∧ ¬ NumOk x a b ∧ E (.ref C) none H
def spLaw (K : PySem.W.Frag) (Pt : Addr) : Sp := fun vs H Q _ => ∃ (a : Addr) (ns : List Int), vs = [.ref a] ∧ ns.length ≤ 63 ∧ SqL K H a (ns.map V.int) ∧ H Pt = some (.tbl #[]) ∧ ∀ H', Q (.bl true) H'
theorem dp_refs {K : PySem.W.Frag} {H : Hp} : ∀ {rs : List Addr} {ds : List (List Int)}, rs.length = ds.length → (∀ (i : Nat) q d, rs[i]? = some q → ds[i]? = some d → SqL K H q (d.map V.int)) → DpAll K H (rs.map V.ref) (ds.map intsD)
  | [], [], _, _ => .nil
  | q :: rs, d :: ds, hl, h => .cons (dp_list (h 0 q d rfl rfl)) (dp_refs (by simpa using hl) fun i q' d' a b => h (i + 1) q' d' a b)
theorem dp_rows {K : PySem.W.Frag} {H : Hp} {a : Addr} {rs : List Addr} {ds : List (List Int)} (e : SqL K H a (rs.map V.ref)) (hl : rs.length = ds.length) (h : ∀ (i : Nat) q d, rs[i]? = some q → ds[i]? = some d → SqL K H q (d.map V.int)) : Dp K H (.ref a) (rowsD ds) := .lst e (dp_refs hl h)
theorem kit_ll {K : PySem.W.Frag} : PySem.W.kitOne K (.type "list") (.type "list") = some true := kit_ty (by decide +kernel)
theorem kit_ib {K : PySem.W.Frag} : PySem.W.kitOne K (.type "int") (.type "bool") = some false := kit_ty (by decide +kernel)
theorem ne_same {K : PySem.W.Frag} {H : Hp} {x y : V} {d : PyData} {Q : VK} (h1 : Dp K H x d) (h2 : Dp K H y d) (sh : SeqAt.shaped d = true) (ev : PyData.eqv d d = true) (q : Q (.bl false) H) : rNeD K x y H Q := ⟨d, d, h1, h2, sh, sh, by rw [ev]; exact q⟩
theorem eq_same {K : PySem.W.Frag} {H : Hp} {x y : V} {d : PyData} {Q : VK} (h1 : Dp K H x d) (h2 : Dp K H y d) (sh : SeqAt.shaped d = true) (ev : PyData.eqv d d = true) (q : Q (.bl true) H) : rEqD K x y H Q := ⟨d, d, h1, h2, sh, sh, by rw [ev]; exact q⟩
theorem neS_same {z : Str} {H : Hp} {Q : VK} (q : Q (.bl false) H) : rNe (.str z) (.str z) H Q := ⟨rfl, by rw [decide_eq_true rfl]; exact q⟩
theorem ne_int {i : Int} {H : Hp} {Q : VK} (q : Q (.bl false) H) : rNe (.int i) (.int i) H Q := ⟨rfl, by rw [decide_eq_true rfl]; exact q⟩
theorem sz' {n : Nat} (h : n ≤ 1000) : n ≤ sizeLine := Nat.le_trans h (by decide)
end Up

/-! the triangle's rows as plain lists -/
namespace Up
def sumsTo (ns : List Int) (i : Nat) : List Int := (List.range (i + 1)).map fun j => (ns.take j).sum
def nextRow (ns : List Int) : List Int := (sumsTo ns ns.length).reverse
def rowN : Nat → List Int
  | 0 => [1]
  | k + 1 => nextRow (rowN k)
theorem sumsTo_zero (ns : List Int) : sumsTo ns 0 = [0] := rfl
theorem sumsTo_succ (ns : List Int) (i : Nat) : sumsTo ns (i + 1) = sumsTo ns i ++ [(ns.take (i + 1)).sum] := by
  unfold sumsTo
  rw [List.range_succ (n := i + 1), List.map_append] <;> rfl
theorem sumsTo_len (ns : List Int) (i : Nat) : (sumsTo ns i).length = i + 1 := by
  unfold sumsTo
  rw [List.length_map, List.length_range]
theorem sumsTo_last (ns : List Int) : ∀ i, ∃ l, sumsTo ns i = l ++ [(ns.take i).sum]
  | 0 => ⟨[], rfl⟩
  | i + 1 => ⟨_, sumsTo_succ ns i⟩
theorem nextRow_len (ns : List Int) : (nextRow ns).length = ns.length + 1 := by
  unfold nextRow
  rw [List.length_reverse, sumsTo_len]
theorem rowN_len : ∀ k, (rowN k).length = k + 1
  | 0 => rfl
  | k + 1 => by
    show (nextRow (rowN k)).length = _
    rw [nextRow_len, rowN_len k]
def fallsL (ns : List Int) : List Int := (List.range (ns.length - 1)).map fun j => ns.getD j 0 - ns.getD (j + 1) 0
def tabRow (j : Nat) : List Int := if (j + 1) % 2 = 0 then (rowN j).reverse else rowN j
theorem tabRow_len (j : Nat) : (tabRow j).length = j + 1 := by
  unfold tabRow
  split
  · rw [List.length_reverse, rowN_len]
  · exact rowN_len j
end Up

set_option Elab.async false
set_option linter.all false
set_option maxRecDepth 100000
set_option maxHeartbeats 4000000
namespace Up
open PySem PySem.Spec PyProof.Rows L2 SrtO
section
variable {prog : Program} {w : World} {A : Around} {s : Shared}
def ltC (B : Int) (k : Value → List Int) (v u : Value) : Bool := decide (TS.code B (k v) < TS.code B (k u))
theorem swo_ltC (B : Int) (k : Value → List Int) : Swo (ltC B k) := by
  refine ⟨fun x y h => ?_, fun x y z h1 h2 => ?_⟩
  · have a := of_decide_eq_true (p := TS.code B (k x) < TS.code B (k y)) h
    exact decide_eq_false (p := TS.code B (k y) < TS.code B (k x)) (by omega)
  · have a := of_decide_eq_false (p := TS.code B (k y) < TS.code B (k x)) h1
    have b := of_decide_eq_false (p := TS.code B (k z) < TS.code B (k y)) h2
    exact decide_eq_false (p := TS.code B (k z) < TS.code B (k x)) (by omega)
def TOk (h : Heap) (d : Nat) (B : Int) (k : Value → List Int) (vs : List Value) : Prop := ∀ v ∈ vs, TS.TupInts h v (k v) ∧ (k v).length = d ∧ TS.Bd B (k v)
theorem tup_cmpC {vs : List Value} {k : Value → List Int} {d : Nat} {B : Int} (hp : TOk s.heap d B k vs) : Cmp prog w A s (tuples' true) (fun p => p.1 ∈ vs) (lt2 (ltC B k)) := by
  intro p q hm hm'
  obtain ⟨h1, l1, b1⟩ := hp _ hm
  obtain ⟨h2, l2, b2⟩ := hp _ hm'
  show wpAny (model prog w) A (keyLt' (tuples' true) p.1 q.1) (fun r s' => s' = s ∧ r = ltC B k p.1 q.1) (fun _ _ => False) s
  unfold ltC
  generalize k p.1 = ns at h1 l1 b1 ⊢
  generalize k q.1 = ms at h2 l2 b2 ⊢
  obtain ⟨a, xs, e, ⟨o, ho, hc, n, hd⟩, i1⟩ := h1
  obtain ⟨a', ys, e', ⟨o', ho', hc', n', hd'⟩, i2⟩ := h2
  rw [e, e']
  have hs : xs.size = ys.size := by
    have h3 := i1.length
    have h4 := i2.length
    rw [Array.length_toList] at h3 h4
    omega
  refine PySem.W.kat_lt ho hd ho' hd' ?_
  rw [decide_eq_false (p := xs.size < ys.size) (by omega)]
  exact TS.lex_ints 0 i1 i2 (l1.trans l2.symm) b1 b2 ⟨rfl, rfl⟩
theorem tup_sortableC {a : Addr} {vs : List Value} {k : Value → List Int} {d : Nat} {B : Int} (hd : 1 ≤ d) (h0 : 0 < vs.length) (hp : TOk s.heap d B k vs) (ha : ∀ o, s.heap.get? a = some o → o.cls ≠ .type "tuple") : SortableO prog w A s a vs (ltC B k) := by
  intro h' keep
  have hp' : TOk h' d B k vs := fun v hm => ⟨(hp v hm).1.keeps fun b o e c => keep b o (fun z => by subst z; exact ha o e c) e, (hp v hm).2⟩
  obtain ⟨fs, h1, h2, h3⟩ := TS.firsts_of (d := d) (B := B) hd vs fun v hm => ⟨k v, hp' v hm⟩
  refine ⟨tuples' true, fun Q E hq => ?_, tup_cmpC (s := { s with heap := h' }) hp'⟩
  refine PySem.W.kat_kind (T := .type "int") h1 (by omega) (fun f hm => ?_) (by rfl) ?_
  · obtain ⟨x, t, rfl⟩ := h3 f hm
    exact PySem.W.Looks.now
  · have e : (Value.type "int" != Value.type "tuple") = true := by first | decide +kernel | rfl | decide
    rw [e]
    exact hq
end
section
variable {X : Cx}
/-- tuples at these addresses, of d ints each, each in [0, B) -/
def TAt (H : Hp) (d : Nat) (B : Int) (k : Addr → List Int) (ts : List Addr) : Prop := ∀ t ∈ ts, H t = some (.tup ((k t).map V.int)) ∧ (k t).length = d ∧ TS.Bd B (k t)
/-- sorted(xs), xs a list of tuples of d ints each -/
def rSortedTC (K : PySem.W.Frag) : List V → Hp → VK → Prop := fun vs H Q => ∃ (a : Addr) (ts : List Addr) (k : Addr → List Int) (d : Nat) (B : Int), vs = [V.ref a] ∧ SqL K H a (ts.map V.ref) ∧ 1 ≤ d ∧ TAt H d B k ts ∧
  ∀ (us : List Addr) (p : Addr), us.Perm ts → us.Pairwise (fun x y => TS.code B (k x) ≤ TS.code B (k y)) → H p = none → Q (.ref p) (upd H p (.lst (us.map V.ref)))
def adr : Value → Addr
  | .ref a => a
  | _ => 0
theorem refs_only : ∀ {ts : List Addr} {us : List Value}, Vals (ts.map V.ref) us → us = ts.map Value.ref
  | [], _, .nil => rfl
  | t :: ts, _, .cons r q => by
    obtain rfl := (r : _ = Value.ref t)
    rw [List.map_cons, refs_only q]
theorem of_refs : ∀ ts : List Addr, Vals (ts.map V.ref) (ts.map Value.ref)
  | [] => .nil
  | _ :: ts => .cons rfl (of_refs ts)
theorem out_refs : ∀ {out : List Value}, (∀ v ∈ out, ∃ t, v = Value.ref t) → out = (out.map adr).map Value.ref
  | [], _ => rfl
  | v :: out, h => by
    obtain ⟨t, rfl⟩ := h v List.mem_cons_self
    rw [List.map_cons, List.map_cons, ← out_refs fun u hu => h u (List.mem_cons_of_mem _ hu)]
    rfl
theorem cr_sortedTC : CallR X (.builtin "sorted") (rSortedTC X.K) := by
  intro pins s σ H vs us Q I r h
  obtain ⟨a, ts, k, d, B, rfl, hs, hd, hx, q⟩ := h
  obtain ⟨its, rv, hl, hz⟩ := I.list hs
  obtain ⟨u, rfl, ru⟩ := vals1 r
  obtain rfl : u = Value.ref a := ru
  have ei := refs_only rv
  subst ei
  have hz' : (ts.map Value.ref).length ≤ sizeLine := by rw [List.length_map]; rw [List.length_map] at hz; exact hz
  have hp : TOk s.heap d B (fun v => k (adr v)) (ts.map Value.ref) := fun v hv => by
    obtain ⟨t, ht, rfl⟩ := List.mem_map.mp hv
    obtain ⟨h1, h2, h3⟩ := hx t ht
    obtain ⟨_, its2, r2, o, ho, hc, n, hdd⟩ := I.hok _ _ h1
    exact ⟨⟨t, its2.toArray, rfl, ⟨o, ho, hc, n, hdd⟩, intsAre_of r2⟩, h2, h3⟩
  refine SrtO.sorted_ord (swo_ltC B fun v => k (adr v)) hl.isList hz' (fun h2 h₁ a' ha kk => ?_) fun out hs' hb => ?_
  · refine tup_sortableC (s := { s with heap := h₁ }) hd (by omega) (fun v hm => ⟨(hp v hm).1.keeps fun b o e _ => (kk b o e).2, (hp v hm).2⟩) fun o e => ?_
    have e' : some o = some (seqObj "list" (ts.map Value.ref).toArray 0) := e.symm.trans ha
    cases e'
    intro c
    exact absurd (Value.type.inj c) (by decide)
  · have h3 : out = (out.map adr).map Value.ref := out_refs fun v hv => by
      obtain ⟨t, _, rfl⟩ := List.mem_map.mp (hb.perm.mem_iff.mp hv)
      exact ⟨t, rfl⟩
    have hpm : (out.map adr).Perm ts := by
      have z := hb.perm.map adr
      rw [List.map_map, show (adr ∘ Value.ref) = id from rfl, List.map_id] at z
      exact z
    obtain ⟨ep, he'⟩ := PyProof.Rows.sortedAll_at s.heap (ts.map Value.ref) out.toArray
    have hlen : ((out.map adr).map V.ref).length ≤ sizeLine := by
      rw [List.length_map, hpm.length_eq]
      rw [List.length_map] at hz'
      exact hz'
    have hv : Vals ((out.map adr).map V.ref) out := by
      have z := of_refs (out.map adr)
      rw [← h3] at z
      exact z
    refine ⟨.ref _, upd H (s.heap.objs.size + 1) (.lst ((out.map adr).map V.ref)), I.laid (t' := s.toks) (fun _ _ => PyProof.Rows.sortedAll_old) (Nat.le_succ _) ⟨hlen, out, ep, hv, he'⟩, rfl, q _ _ hpm ?_ (I.hok.fresh (Nat.le_succ _))⟩
    refine List.pairwise_map.mpr (hs'.imp fun {x y} h => ?_)
    have b := of_decide_eq_false (p := TS.code B (k (adr y)) < TS.code B (k (adr x))) h
    omega
end
theorem slAK {X : Cx} (K : PySem.W.Frag) (h : X.K = K := by rfl) : SlR X (rSlA K) := by subst h; exact sl_tupA
theorem catAK {X : Cx} (K : PySem.W.Frag) (h : X.K = K := by rfl) : OpR X (binaryOp .Add) (rCatA K) := by subst h; exact op_catA
theorem sortTK {X : Cx} (K : PySem.W.Frag) (h : X.K = K := by rfl) : CallR X (.builtin "sorted") (rSortedTC K) := by subst h; exact cr_sortedTC
/-- tuples of ints at these addresses -/
def TupsAt (H : Hp) (ts : List Addr) (ls : List (List Int)) : Prop := ts.map H = ls.map fun l => some (HO.tup (l.map V.int))
theorem TupsAt.len {H : Hp} {ts : List Addr} {ls : List (List Int)} (h : TupsAt H ts ls) : ts.length = ls.length := by
  have := congrArg List.length h
  simpa using this
theorem TupsAt.nil (H : Hp) : TupsAt H [] [] := rfl
theorem TupsAt.add {H : Hp} {ts us : List Addr} {ls ms : List (List Int)} (h : TupsAt H ts ls) (k : TupsAt H us ms) : TupsAt H (ts ++ us) (ls ++ ms) := by
  unfold TupsAt at *
  rw [List.map_append, List.map_append, h, k]
theorem TupsAt.one {H : Hp} {t : Addr} {l : List Int} (h : H t = some (.tup (l.map V.int))) : TupsAt H [t] [l] := by
  show [H t] = _
  rw [h]; rfl
theorem TupsAt.get {H : Hp} {ts : List Addr} {ls : List (List Int)} (h : TupsAt H ts ls) {i : Nat} {t : Addr} (e : ts[i]? = some t) : ∃ l, ls[i]? = some l ∧ H t = some (.tup (l.map V.int)) := by
  have z : (ts.map H)[i]? = (ls.map fun l => some (HO.tup (l.map V.int)))[i]? := congrArg (·[i]?) h
  rw [List.getElem?_map, e, List.getElem?_map] at z
  cases q : ls[i]? with
  | none => rw [q] at z; cases z
  | some l => rw [q] at z; exact ⟨l, rfl, Option.some.inj z⟩
theorem TupsAt.mem {H : Hp} {ts : List Addr} {ls : List (List Int)} (h : TupsAt H ts ls) {t : Addr} (m : t ∈ ts) : ∃ l, l ∈ ls ∧ H t = some (.tup (l.map V.int)) := by
  obtain ⟨i, hi, e⟩ := List.mem_iff_getElem.mp m
  obtain ⟨l, q, r⟩ := h.get (i := i) (t := t) (by rw [List.getElem?_eq_getElem hi, e])
  exact ⟨l, List.mem_of_getElem? q, r⟩
theorem TupsAt.to {H H' : Hp} {ts : List Addr} {ls : List (List Int)} (h : TupsAt H ts ls) (k : ∀ t l, H t = some (.tup l) → H' t = some (.tup l)) : TupsAt H' ts ls := by
  have e : ts.map H' = ts.map H := List.map_congr_left fun t m => by
    obtain ⟨l, _, q⟩ := h.mem m
    rw [q, k _ _ q]
  unfold TupsAt
  rw [e]; exact h
theorem TupsAt.same {H H' : Hp} {ts : List Addr} {ls : List (List Int)} (h : TupsAt H ts ls) (s : Same H H') : TupsAt H' ts ls := h.to fun t l e => s _ _ e
theorem TupsAt.set {H : Hp} {ts : List Addr} {ls : List (List Int)} {p : Addr} {xs : List V} {o : HO} (h : TupsAt H ts ls) (e : H p = some (.lst xs)) : TupsAt (upd H p o) ts ls := h.to fun t l q => by
  rw [upd_ne fun z => by rw [z, e] at q; cases q]; exact q
def toI : V → Int
  | .int i => i
  | _ => 0
theorem toI_ints (l : List Int) : (l.map V.int).map toI = l := by
  rw [List.map_map]; exact List.map_id l
/-- the ints of the tuple at t -/
def tk (H : Hp) (t : Addr) : List Int := match H t with
  | some (.tup xs) => xs.map toI
  | _ => []
theorem tk_of {H : Hp} {t : Addr} {l : List Int} (h : H t = some (.tup (l.map V.int))) : tk H t = l := by
  unfold tk
  rw [h]; exact toI_ints l
theorem TupsAt.keys {H : Hp} {ts : List Addr} {ls : List (List Int)} (h : TupsAt H ts ls) : ts.map (tk H) = ls := by
  refine List.ext_getElem? fun i => ?_
  rw [List.getElem?_map]
  cases e : ts[i]? with
  | none =>
    have := List.getElem?_eq_none_iff.mp e
    rw [h.len] at this
    rw [List.getElem?_eq_none this]; rfl
  | some t =>
    obtain ⟨l, q, r⟩ := h.get e
    rw [q]
    exact congrArg some (tk_of r)
theorem TupsAt.perm {H : Hp} {ts us : List Addr} {ls : List (List Int)} (h : TupsAt H ts ls) (p : us.Perm ts) : ∃ ms, TupsAt H us ms ∧ ms.Perm ls := by
  refine ⟨us.map (tk H), ?_, by rw [← h.keys]; exact p.map _⟩
  unfold TupsAt
  rw [List.map_map]
  refine List.map_congr_left fun t m => ?_
  obtain ⟨l, _, q⟩ := h.mem (p.mem_iff.mp m)
  show H t = some (HO.tup ((tk H t).map V.int))
  rw [tk_of q]; exact q
theorem TupsAt.tat {H : Hp} {ts : List Addr} {ls : List (List Int)} {d : Nat} {B : Int} (h : TupsAt H ts ls) (g : ∀ l ∈ ls, l.length = d ∧ TS.Bd B l) : TAt H d B (tk H) ts := fun t m => by
  obtain ⟨l, hl, q⟩ := h.mem m
  rw [tk_of q]
  exact ⟨q, g l hl⟩
theorem take_by {K : PySem.W.Frag} {H : Hp} {Q : VK} {t : Addr} {l : List Int} {k : Nat} (e : H t = some (.tup (l.map V.int))) (q : ∀ H' p, Same H H' → H' p = some (.tup ((l.take k).map V.int)) → Q (.ref p) H') : rSlA K (.ref t) none (some (k : Int)) H Q := by
  refine ⟨t, _, rfl, SqT.of e, fun c => ?_, fun c p np => ?_⟩
  · have hk := c.2
    rw [HT.sIx_nat, List.length_map] at hk
    refine q H t (Same.refl _) ?_
    rw [List.take_of_length_le (by omega)]; exact e
  · refine q _ p (same_new np) ?_
    rw [upd_same]
    unfold cutV
    rw [HT.sIx_none, HT.sIx_nat, List.drop_zero, Nat.sub_zero, ← List.map_take, List.length_map]
    by_cases z : k ≤ l.length
    · rw [Nat.min_eq_left z]
    · rw [Nat.min_eq_right (by omega), List.take_of_length_le (Nat.le_refl _), List.take_of_length_le (by omega)]
theorem drop_by {K : PySem.W.Frag} {H : Hp} {Q : VK} {t : Addr} {l : List Int} {k : Nat} (e : H t = some (.tup (l.map V.int))) (q : ∀ H' p, Same H H' → H' p = some (.tup ((l.drop k).map V.int)) → Q (.ref p) H') : rSlA K (.ref t) (some (k : Int)) none H Q := by
  refine ⟨t, _, rfl, SqT.of e, fun c => ?_, fun c p np => ?_⟩
  · have hk := c.1
    rw [HT.sIx_nat, List.length_map] at hk
    refine q H t (Same.refl _) ?_
    by_cases z : k = 0
    · rw [z, List.drop_zero]; exact e
    · have z2 : l.length = 0 := by omega
      have z3 : l = [] := List.length_eq_zero_iff.mp z2
      rw [z3] at e ⊢
      rw [List.drop_nil]; exact e
  · refine q _ p (same_new np) ?_
    rw [upd_same]
    unfold cutV
    rw [HT.sIx_none, HT.sIx_nat, List.length_map, ← List.map_drop, ← List.map_take]
    by_cases z : k ≤ l.length
    · rw [Nat.min_eq_left z, List.take_of_length_le (by rw [List.length_drop]; exact Nat.le_refl _)]
    · rw [Nat.min_eq_right (by omega), Nat.sub_self, List.take_zero, List.drop_of_length_le (by omega)]
theorem cat_by {K : PySem.W.Frag} {H : Hp} {Q : VK} {a b : Addr} {l m : List Int} (ea : H a = some (.tup (l.map V.int))) (eb : H b = some (.tup (m.map V.int))) (hz : l.length + m.length ≤ sizeLine) (q : ∀ H' p, Same H H' → H' p = some (.tup ((l ++ m).map V.int)) → Q (.ref p) H') : rCatA K (.ref a) (.ref b) H Q := by
  refine ⟨a, b, _, _, rfl, rfl, SqT.of ea, SqT.of eb, by rw [List.length_map, List.length_map]; exact hz, fun c => ?_, fun c d => ?_, fun c d p np => ?_⟩
  · have z : l = [] := List.map_eq_nil_iff.mp c
    refine q H b (Same.refl _) ?_
    rw [z, List.nil_append]; exact eb
  · have z : m = [] := List.map_eq_nil_iff.mp d
    refine q H a (Same.refl _) ?_
    rw [z, List.append_nil]; exact ea
  · refine q _ p (same_new np) ?_
    rw [upd_same, List.map_append]
theorem get_ref {ts : List Addr} {j : Nat} {x : V} (h : (ts.map V.ref)[j]? = some x) : ∃ t, ts[j]? = some t ∧ x = .ref t := by
  rw [List.getElem?_map] at h
  cases e : ts[j]? with
  | none => rw [e] at h; cases h
  | some t => rw [e] at h; exact ⟨t, rfl, (Option.some.inj h).symm⟩
def scOf : Expr → Scope
  | .Compare _ _ (.ListComp _ _ sc _ :: _) _ => sc
  | _ => defScope (.Pass ⟨0, 0, 0, 0⟩)
def scIf : List Stmt → Scope
  | [_, .If t _ _ _] => scOf t
  | _ => defScope (.Pass ⟨0, 0, 0, 0⟩)
/-- the scope of the comprehension with one within, in the law's second statement -/
def scOuter (s : Stmt) : Scope := match (defBody s).getD 1 (.Pass ⟨0, 0, 0, 0⟩) with
  | .For _ _ b _ _ => scIf b
  | _ => defScope (.Pass ⟨0, 0, 0, 0⟩)
theorem piLK {X : Cx} {tg l : Expr} {tl : TE} (K : PySem.W.Frag) (hl : PE X l tl) (h : X.K = K := by rfl) : PI X tg l (iList K tl) := by subst h; exact pi_list hl
end Up

set_option Elab.async false
set_option linter.all false
set_option maxRecDepth 100000
set_option maxHeartbeats 2000000
/-! own rules: a list's slice by a step that is 1 or -1, told at run time; tuple.index of ints -/
namespace Up
open PySem PySem.Spec PyProof.Rows L2
section
variable {X : Cx}
def tStepL (K : PySem.W.Frag) (te ts : TE) : TE := fun σ H Q => te σ H fun v H1 => ∃ a xs, v = .ref a ∧ SqL K H1 a xs ∧ ts σ H1 fun d H2 => ∃ i : Int, d = .int i ∧ SqL K H2 a xs ∧ ((i = 1 ∧ ∀ p, H2 p = none → Q (.ref p) (upd H2 p (.lst xs))) ∨ (i = -1 ∧ ∀ p, H2 p = none → Q (.ref p) (upd H2 p (.lst xs.reverse))))
theorem pick_one (its : Array Value) : slicePick its none none (some 1) = its := by
  have e : slicePick its none none (some 1) = slicePick its none none none := rfl
  rw [e, slicePick_all]
theorem pe_stepL {e st : Expr} {te ts : TE} {p3 pos : Pos} (he : PE X e te) (hs : PE X st ts) : PE X (.Subscript e (.Slice none none (some st) p3) pos) (tStepL X.K te ts) := by
  refine ⟨fun pins s σ H Q I h => ?_⟩
  refine Subscript_ (thn (he.run pins s σ H _ I h) fun v s1 ⟨x, H1, I1, r1, q1⟩ => ?_)
  obtain ⟨a, xs, ex, hx, q⟩ := q1
  subst ex
  cases r1
  refine wpAny_Slice (thn (po_none.run pins s1 σ H1 (fun o H2 => o = none ∧ H2 = H1) I1 ⟨rfl, rfl⟩) fun vl s2 ⟨l, H2, I2, pl, el, e2⟩ => ?_)
  subst el e2
  refine thn (po_none.run pins s2 σ H2 (fun o H3 => o = none ∧ H3 = H2) I2 ⟨rfl, rfl⟩) fun vu s3 ⟨u, H3, I3, pu, eu, e3⟩ => ?_
  subst eu e3
  have hst : PO X (some st) (tPart ts) := po_some hs
  refine thn (hst.run pins s3 σ H3 (fun o H4 => match o with | some i => SqL X.K H4 a xs ∧ ((i = 1 ∧ ∀ p, H4 p = none → Q (.ref p) (upd H4 p (.lst xs))) ∨ (i = -1 ∧ ∀ p, H4 p = none → Q (.ref p) (upd H4 p (.lst xs.reverse)))) | none => False) I3 q) fun vs s4 ⟨o, H4, I4, ps, ho⟩ => ?_
  match o, ps, ho with
  | none, _, ho => exact ho.elim
  | some d, ps, ho =>
  obtain ⟨hx4, hd⟩ := ho
  have I5 : Inv X pins σ H4 { s4 with heap := s4.heap.push { cls := .type "slice", data := .fields #[vl, vu, vs] } } := I4.kept (t' := s4.toks) fun b ob q => Heap.get?_push_of_some _ q
  obtain ⟨its, r, ht, hz⟩ := I5.list hx4
  have hlen := r.length
  show wpAny (model X.prog X.w) X.A (subscriptTail e (.Slice none none (some st) p3) (.ref a) (.ref s4.heap.objs.size)) (EP X pins σ Q) X.xe { s4 with heap := s4.heap.push { cls := .type "slice", data := .fields #[vl, vu, vs] } }
  refine tail_any (ops := [.ref a, .ref s4.heap.objs.size]) ht.isList.typeIs (PySem.slot_list_getitem.lookup) ?_ (by with_unfolding_all rfl)
  refine wpAny_getItem_list_slice ht.isList (Heap.IsSliceOf.new _ vl vu vs) pl pu ps ?_ ?_ (by rw [List.size_toArray]; omega)
  · rcases hd with ⟨rfl, _⟩ | ⟨rfl, _⟩ <;> decide
  rcases hd with ⟨rfl, q⟩ | ⟨rfl, q⟩
  · rw [pick_one]
    refine ⟨.ref _, _, I5.laid (t' := s4.toks) (o := .lst xs) (fun b ob q => Heap.get?_push_of_some _ q) (Nat.le_refl _) ?_, rfl, q _ (I5.hok.fresh (Nat.le_refl _))⟩
    exact ⟨hz, _, 0, r, Heap.get?_push_size _ rfl⟩
  · rw [PySem.W.krv_pick]
    refine ⟨.ref _, _, I5.laid (t' := s4.toks) (o := .lst xs.reverse) (fun b ob q => Heap.get?_push_of_some _ q) (Nat.le_refl _) ?_, rfl, q _ (I5.hok.fresh (Nat.le_refl _))⟩
    exact ⟨by rw [List.length_reverse]; exact hz, _, 0, r.reverse, Heap.get?_push_size _ rfl⟩
theorem stepLK (K : PySem.W.Frag) {e st : Expr} {te ts : TE} {p3 pos : Pos} (he : PE X e te) (hs : PE X st ts) (h : X.K = K := by rfl) : PE X (.Subscript e (.Slice none none (some st) p3) pos) (tStepL K te ts) := by subst h; exact pe_stepL he hs
theorem mt_tupI (K : PySem.W.Frag) (h : X.K = K := by rfl) : MtR X "tuple.index" (fun x xs H Q => ∃ p, ∃ ys : List Int, ∃ z j, x = .ref p ∧ xs = [.int z] ∧ SqT K H p (ys.map V.int) ∧ ys[j]? = some z ∧ (∀ m, m < j → ys[m]? ≠ some z) ∧ Q (.int (j : Nat)) H) := by
  subst h
  intro pins s σ H x xs v us Q I rx rs h
  obtain ⟨p, ys, z, j, rfl, rfl, hq, hy, hno, q⟩ := h
  cases rx
  obtain ⟨u, rfl, t, rfl⟩ := vals1 rs
  obtain ⟨its, r, pl, hz⟩ := I.tuple hq
  obtain ⟨⟨cls, dd, dt, sl⟩, ho, hc, n, hd⟩ := pl
  simp only at hc hd
  subst hc
  subst hd
  have fl : (ys.map V.int).all flatV = true := by
    rw [List.all_map]
    exact List.all_eq_true.mpr fun _ _ => rfl
  have hl : its.toArray.size = ys.length := by rw [List.size_toArray, ← r.length, List.length_map]
  have hj : j < its.toArray.size := by rw [hl]; exact (List.getElem?_eq_some_iff.mp hy).1
  have at' : ∀ (m : Nat) (hm : m < its.toArray.size), ∃ y t', ys[m]? = some y ∧ its.toArray[m] = Value.int y t' := fun m hm => by
    have hm' : m < ys.length := by rw [← hl]; exact hm
    obtain ⟨w, hw, t', hw'⟩ := r.get (i := m) (x := .int ys[m]) (by simp [hm'])
    refine ⟨ys[m], t', List.getElem?_eq_getElem hm', ?_⟩
    have e := (List.getElem?_eq_some_iff.mp hw).2
    rw [← hw', ← e]
    simp
  refine call_meets PySem.F.slot_tuple_index ⟨_, ho, rfl⟩ PySem.F.entry_tuple_index (PySem.F.args_tuple_index_2 _ _) (TI.tuple_indexAt p its.toArray n dd sl (.int z t) (eqU (.int z)) j hj ?_ ?_)
    ⟨ho, fun w hw => mem_eqAt (x := .int z) ⟨t, rfl⟩ rfl r fl w (by simpa using hw), ⟨.int (j : Nat), H, I.tok _, ⟨_, rfl⟩, q⟩⟩
  · obtain ⟨y, t', h1, h2⟩ := at' j hj
    rw [hy] at h1
    cases h1
    rw [h2]
    show (z == z) = true
    exact beq_self_eq_true z
  · intro m hm hmj
    obtain ⟨y, t', h1, h2⟩ := at' m hm
    rw [h2]
    show (y == z) = false
    exact beq_eq_false_iff_ne.mpr fun e => hno m hmj (e ▸ h1)
end
end Up

set_option Elab.async false
set_option linter.all false
set_option maxRecDepth 100000
set_option maxHeartbeats 2000000
/-! own rules: tuples of which it is known that they bear no attributes, and index of these -/
namespace Up
open PySem PySem.Spec PyProof.Rows L2
section
variable {X : Cx}
def tTupZ (t : TA) : TE := fun σ H Q => t σ H fun xs H1 => xs.length ≤ sizeLine ∧ ∀ p ob, ob.dict = none → H1 p = none → Q (.ref p) (upd H1 p (.frz ob (.tup xs)))
theorem pe_tupZ {es : List Expr} {t : TA} {pos : Pos} {x1} (h : PA X es t) : PE X (.Tuple es x1 pos) (tTupZ t) := by
  refine ⟨fun pins s σ H Q I hq => ?_⟩
  refine wpAny_Tuple_spliced (thn (h.run pos pins s σ H _ I hq) fun us s1 ⟨xs, H1, I1, r, z, q⟩ => ⟨by rw [← r.length]; exact z, ?_⟩)
  have hf : H1 s1.heap.objs.size = none := I1.hok.fresh (Nat.le_refl _)
  refine ⟨.ref s1.heap.objs.size, upd H1 s1.heap.objs.size (.frz { cls := .type "tuple", data := .seq us.toArray } (.tup xs)), I1.laid (t' := s1.toks) (fun b u e => Heap.get?_push_of_some _ e) (Nat.le_refl _) ?_, rfl, q _ _ rfl hf⟩
  exact ⟨Heap.get?_push_size _ rfl, z, us, r, ⟨_, Heap.get?_push_size _ rfl, rfl, _, rfl⟩⟩
def rCatZ (K : PySem.W.Frag) : R2 := fun x y H Q => ∃ a b xs ys, x = .ref a ∧ y = .ref b ∧ SqT K H a xs ∧ SqT K H b ys ∧ xs.length + ys.length ≤ sizeLine ∧
  (xs = [] → Q (.ref b) H) ∧ (xs ≠ [] → ys = [] → Q (.ref a) H) ∧ (xs ≠ [] → ys ≠ [] → ∀ p ob, ob.dict = none → H p = none → Q (.ref p) (upd H p (.frz ob (.tup (xs ++ ys)))))
theorem catZK (K : PySem.W.Frag) (hK : X.K = K := by rfl) : OpR X (binaryOp .Add) (rCatZ K) := by
  subst hK
  intro pins s σ H x y v u Q I rx ry h
  obtain ⟨a, b, xs, ys, rfl, rfl, ha, hb, hz, q0, q1, q2⟩ := h
  by_cases hx : xs = []
  · exact op_catA pins s σ H _ _ v u Q I rx ry ⟨a, b, xs, ys, rfl, rfl, ha, hb, hz, q0, q1, fun z => absurd hx z⟩
  · cases rx
    cases ry
    obtain ⟨its, r1, p1, _⟩ := I.tuple ha
    obtain ⟨its2, r2, p2, _⟩ := I.tuple hb
    refine HT.cat_tup p1 p2 (fun z => hx (r1.nil_iff.mp z)) (fun z => ⟨.ref a, H, I, rfl, q1 hx (r2.nil_iff.mp z)⟩) (fun z => ?_) (by rw [← r1.length, ← r2.length]; exact hz)
    refine ⟨.ref s.heap.objs.size, upd H s.heap.objs.size (.frz { cls := .type "tuple", data := .seq (its ++ its2).toArray } (.tup (xs ++ ys))), I.laid (t' := s.toks) (fun b ob q => Heap.get?_push_of_some _ q) (Nat.le_refl _) ?_, rfl, q2 hx (fun w => z (r2.nil_iff.mpr w)) _ _ rfl (I.hok.fresh (Nat.le_refl _))⟩
    exact ⟨Heap.get?_push_size _ rfl, by rw [List.length_append]; exact hz, _, r1.append r2, IsTup.new _ _⟩
/-- t.index(b), t a tuple of ints that bears no attributes, where b stands in it -/
def tTix (to : TE) (tb : TA) : TE := fun σ H Q => to σ H fun x H1 => ∃ (p : Addr) (ob : Obj) (ns : List Int), x = .ref p ∧ ob.dict = none ∧ H1 p = some (.frz ob (.tup (ns.map V.int))) ∧
  tb σ H1 fun xs H2 => H2 p = some (.frz ob (.tup (ns.map V.int))) ∧ ∃ (z : Int) (j : Nat), xs = [.int z] ∧ ns[j]? = some z ∧ (∀ m, m < j → ns[m]? ≠ some z) ∧ Q (.int (j : Nat)) H2
theorem pe_tix {o e : Expr} {es : List Expr} {to : TE} {t : TA} {apos cpos : Pos} (ho : PE X o to) (ha : PA X (e :: es) t)
    (hbase : attributeBase o "index" X.env (eval o X.env) = eval o X.env := by rfl)
    (hfew : ((backTo cpos (starEach (e :: es) X.env)).all (fun x => !x.1) && (backToKw cpos (keywordEach [] X.env)).all (fun x => x.1.isSome)
      && decide ((e :: es).length + ([] : List Keyword).length + (if ([] : List Keyword).isEmpty then 0 else 1) < 30)) = true := by rfl)
    (hline : (apos.endLine == cpos.line) = true := by rfl) (hs : starEach (e :: es) X.env = (false, eval e X.env) :: starEach es X.env := by rfl) (hplain : (backTo cpos (starEach es X.env)).any (·.1) = false := by rfl) :
    PE X (.Call (.Attribute o "index" apos) (e :: es) [] cpos) (tTix to t) := by
  refine ⟨fun pins s σ H Q I h => ?_⟩
  refine wpAny_Call_method_late hbase hfew hline rfl (thn (ho.run pins s σ H _ I h) fun v s1 ⟨x, H1, I1, r1, p, ob, ns, ex, hd0, hT, q1⟩ => ?_)
  subst ex
  obtain rfl : v = Value.ref p := r1
  obtain ⟨ho1, hz, its, rv, o2, ho2, hc, n, hd⟩ := I1.hok _ _ hT
  rw [ho1] at ho2
  cases ho2
  refine ⟨"tuple", "tuple.index", PySem.F.plainAttrs_tuple, PySem.F.slot_tuple_index, PySem.F.type_tuple_index, ⟨_, ho1, hc⟩, fun a e => by cases e; exact ⟨_, ho1, hd0⟩, ?_⟩
  have hA := ha.run cpos pins s1 σ H1 _ I1 q1
  rw [hs] at hA ⊢
  refine Calls.callWith_builtin (by show (false || (backTo cpos (starEach es X.env)).any (·.1)) = false; rw [hplain] <;> rfl) (Calls.evalArgs_plain ?_)
  refine thn hA fun us s2 ⟨vs, H2, I2, r2, hT2, z, j, e2, h1, h2, q2⟩ => ?_
  exact mt_tupI X.K rfl pins s2 σ H2 (.ref p) vs (.ref p) us Q I2 rfl r2 ⟨p, ns, z, j, rfl, e2, .inl (.inr ⟨_, hT2⟩), h1, h2, q2⟩
theorem pe_bmK (K : PySem.W.Frag) {o e : Expr} {es : List Expr} {to : TE} {t : TA} {name : Str} {apos cpos : Pos} {T id : String} {r : V → List V → Hp → VK → Prop} (pa : PlainAttrs T) (slot : Slot T name id) (hty : typeOf (.builtin id) = pure (.type "method_descriptor")) (hm : MtR X id r) (ho : PE X o to) (ha : PA X (e :: es) t) (h : X.K = K := by rfl)
    (hbase : attributeBase o name X.env (eval o X.env) = eval o X.env := by rfl)
    (hfew : ((backTo cpos (starEach (e :: es) X.env)).all (fun x => !x.1) && (backToKw cpos (keywordEach [] X.env)).all (fun x => x.1.isSome)
      && decide ((e :: es).length + ([] : List Keyword).length + (if ([] : List Keyword).isEmpty then 0 else 1) < 30)) = true := by rfl)
    (hline : (apos.endLine == cpos.line) = true := by rfl) (hs : starEach (e :: es) X.env = (false, eval e X.env) :: starEach es X.env := by rfl) (hplain : (backTo cpos (starEach es X.env)).any (·.1) = false := by rfl) :
    PE X (.Call (.Attribute o name apos) (e :: es) [] cpos) (tBM K T r to t) := by
  subst h
  exact pe_bm pa slot hty hm ho ha hbase hfew hline hs hplain
end
/-- a tuple of ints without attributes -/
def Zt (H : Hp) (t : Addr) (l : List Int) : Prop := ∃ ob : Obj, ob.dict = none ∧ H t = some (.frz ob (.tup (l.map V.int)))
theorem Zt.sq {K : PySem.W.Frag} {H : Hp} {t : Addr} {l : List Int} (h : Zt H t l) : SqT K H t (l.map V.int) := by
  obtain ⟨ob, _, e⟩ := h
  exact .inl (.inr ⟨ob, e⟩)
theorem Zt.same {H H' : Hp} {t : Addr} {l : List Int} (h : Zt H t l) (s : Same H H') : Zt H' t l := by
  obtain ⟨ob, d, e⟩ := h
  exact ⟨ob, d, s _ _ e⟩
theorem Zt.new {H : Hp} {t : Addr} {ob : Obj} {l : List Int} {xs : List V} (d : ob.dict = none) (e : xs = l.map V.int) : Zt (upd H t (.frz ob (.tup xs))) t l := ⟨ob, d, by rw [upd_same, e]⟩
structure TupsZ (H : Hp) (ts : List Addr) (ls : List (List Int)) : Prop where
  len : ts.length = ls.length
  at' : ∀ (i : Nat) (t : Addr) (l : List Int), ts[i]? = some t → ls[i]? = some l → Zt H t l
theorem TupsZ.nil (H : Hp) : TupsZ H [] [] := ⟨rfl, fun i t l h => by simp at h⟩
theorem TupsZ.one {H : Hp} {t : Addr} {l : List Int} (h : Zt H t l) : TupsZ H [t] [l] := ⟨rfl, fun i u m h1 h2 => by
  cases i with
  | zero => cases h1; cases h2; exact h
  | succ i => simp at h1⟩
theorem TupsZ.add {H : Hp} {ts us : List Addr} {ls ms : List (List Int)} (h : TupsZ H ts ls) (k : TupsZ H us ms) : TupsZ H (ts ++ us) (ls ++ ms) := ⟨by rw [List.length_append, List.length_append, h.len, k.len], fun i t l h1 h2 => by
  by_cases hi : i < ts.length
  · rw [List.getElem?_append_left hi] at h1
    rw [List.getElem?_append_left (h.len ▸ hi)] at h2
    exact h.at' i t l h1 h2
  · rw [List.getElem?_append_right (by omega)] at h1
    rw [List.getElem?_append_right (by rw [← h.len]; omega), ← h.len] at h2
    exact k.at' _ t l h1 h2⟩
theorem TupsZ.same {H H' : Hp} {ts : List Addr} {ls : List (List Int)} (h : TupsZ H ts ls) (s : Same H H') : TupsZ H' ts ls := ⟨h.len, fun i t l h1 h2 => (h.at' i t l h1 h2).same s⟩
theorem TupsZ.set {H : Hp} {ts : List Addr} {ls : List (List Int)} {p : Addr} {xs : List V} {o : HO} (h : TupsZ H ts ls) (e : H p = some (.lst xs)) : TupsZ (upd H p o) ts ls := ⟨h.len, fun i t l h1 h2 => by
  obtain ⟨ob, d, q⟩ := h.at' i t l h1 h2
  exact ⟨ob, d, by rw [upd_ne fun z => by rw [z, e] at q; cases q]; exact q⟩⟩
theorem TupsZ.get {H : Hp} {ts : List Addr} {ls : List (List Int)} (h : TupsZ H ts ls) {i : Nat} {t : Addr} (e : ts[i]? = some t) : ∃ l, ls[i]? = some l ∧ Zt H t l := by
  have hi : i < ls.length := by rw [← h.len]; exact (List.getElem?_eq_some_iff.mp e).1
  exact ⟨ls[i], List.getElem?_eq_getElem hi, h.at' i t _ e (List.getElem?_eq_getElem hi)⟩
theorem catz_by {K : PySem.W.Frag} {H : Hp} {Q : VK} {a b : Addr} {l m : List Int} (ea : Zt H a l) (eb : Zt H b m) (hz : l.length + m.length ≤ sizeLine) (q : ∀ H' p, Same H H' → Zt H' p (l ++ m) → Q (.ref p) H') : rCatZ K (.ref a) (.ref b) H Q := by
  refine ⟨a, b, _, _, rfl, rfl, ea.sq, eb.sq, by rw [List.length_map, List.length_map]; exact hz, fun c => ?_, fun c d => ?_, fun c d p ob hd np => ?_⟩
  · have z : l = [] := List.map_eq_nil_iff.mp c
    refine q H b (Same.refl _) ?_
    rw [z, List.nil_append]; exact eb
  · have z : m = [] := List.map_eq_nil_iff.mp d
    refine q H a (Same.refl _) ?_
    rw [z, List.append_nil]; exact ea
  · exact q _ p (same_new np) (Zt.new hd (by rw [List.map_append]))
end Up

/-! ways with a number at a place; full trees by what is left; the law's own reckoning -/
namespace Up
def chF (t : Int) : Nat → Int
  | 0 => 1
  | k + 1 => chF t k * (t - (k : Int)) / ((k : Int) + 1)
def sumTo (f : Nat → Int) (i : Nat) : Int := ((List.range i).map f).sum
theorem sumTo_succ (f : Nat → Int) (i : Nat) : sumTo f (i + 1) = sumTo f i + f i := by
  unfold sumTo
  rw [List.range_succ, List.map_append, List.sum_append]
  simp
def sideN (up : Bool) (k : Nat) : List Int := if up = true then rowN k else (rowN k).reverse
theorem sideN_len (up : Bool) (k : Nat) : (sideN up k).length = k + 1 := by
  unfold sideN
  split
  · exact rowN_len k
  · rw [List.length_reverse, rowN_len]
/-- place p + 1, number b + 1 -/
def loN (n p b : Nat) : Nat := p + b + 1 - n
def termN (n p b l : Nat) : Int := chF (b : Int) l * chF ((n - 1 - b : Nat) : Int) (p - l) * (sideN (p % 2 == 0) p).getD l 0 * (sideN (p % 2 == 0) (n - 1 - p)).getD (b - l) 0
def waysN (n p b : Nat) : Int := sumTo (fun i => termN n p b (loN n p b + i)) (min (p + 1) (b + 1) - loN n p b)
def fullL (n : Nat) : List Int := (List.range n).map fun i => waysN n i (n - 1)
theorem fullL_len (n : Nat) : (fullL n).length = n := by unfold fullL; rw [List.length_map, List.length_range]
/-! what the law reckons -/
def stepS (s : List Int) : List Int := ((List.range (s.length + 1)).map fun r => (s.drop r).sum).reverse
def someN : Nat → List Int
  | 0 => [1]
  | k + 1 => stepS (someN k)
theorem someN_len : ∀ k, (someN k).length = k + 1
  | 0 => rfl
  | k + 1 => by
    show (stepS (someN k)).length = _
    unfold stepS
    rw [List.length_reverse, List.length_map, List.length_range, someN_len k]
def foundN (k : Nat) : List Int := [1] ++ (List.range k).map fun i => (someN i).sum
theorem foundN_len (k : Nat) : (foundN k).length = k + 1 := by
  unfold foundN
  rw [List.length_append, List.length_map, List.length_range]; show 1 + k = _; omega
theorem foundN_succ (k : Nat) : foundN (k + 1) = foundN k ++ [(someN k).sum] := by
  unfold foundN
  rw [List.range_succ, List.map_append, List.append_assoc]; rfl
def nextCh (c : List Int) : List Int := [1] ++ ((List.range (c.length - 1)).map fun j => c.getD j 0 + c.getD (j + 1) 0) ++ [1]
def chosenN : Nat → List Int
  | 0 => [1]
  | k + 1 => nextCh (chosenN k)
theorem chosenN_len : ∀ k, (chosenN k).length = k + 1
  | 0 => rfl
  | k + 1 => by
    show (nextCh (chosenN k)).length = _
    unfold nextCh
    rw [List.length_append, List.length_append, List.length_map, List.length_range, chosenN_len k]
    show 1 + (k + 1 - 1) + 1 = _
    omega
/-- may o stand behind s, the k-th -/
def fitsN (k : Nat) (s : List Int) (o : Int) : Bool := !s.contains o && (k == 0 || (decide (s.getLastD 0 < o) == (k % 2 == 1)))
def oneUp (k : Nat) (s : List Int) (m : Nat) : List (List Int) := (List.range m).flatMap fun (j : Nat) => if fitsN k s (1 + (j : Int)) = true then [s ++ [1 + (j : Int)]] else []
def stepU (n k : Nat) (xs : List (List Int)) : List (List Int) := xs.flatMap fun s => oneUp k s n
def upsN (n : Nat) : Nat → List (List Int)
  | 0 => [[]]
  | k + 1 => stepU n k (upsN n k)
theorem oneUp_succ (k : Nat) (s : List Int) (m : Nat) : oneUp k s (m + 1) = oneUp k s m ++ if fitsN k s (1 + (m : Int)) = true then [s ++ [1 + (m : Int)]] else [] := by
  unfold oneUp
  rw [List.range_succ, List.flatMap_append]
  simp
theorem stepU_take {n k : Nat} {xs : List (List Int)} {i : Nat} {s : List Int} (h : xs[i]? = some s) : stepU n k (xs.take (i + 1)) = stepU n k (xs.take i) ++ oneUp k s n := by
  unfold stepU
  rw [List.take_add_one, h, List.flatMap_append]
  simp
theorem upsN_len (n : Nat) : ∀ k, ∀ s ∈ upsN n k, s.length = k
  | 0 => fun s hs => by rw [List.mem_singleton.mp hs]; rfl
  | k + 1 => fun s hs => by
    obtain ⟨t, ht, hs⟩ := List.mem_flatMap.mp hs
    obtain ⟨j, _, hs⟩ := List.mem_flatMap.mp hs
    have e := upsN_len n k t ht
    split at hs
    · rw [List.mem_singleton.mp hs, List.length_append, e]; rfl
    · cases hs
def idxN (x : Int) : List Int → Nat
  | [] => 0
  | y :: ys => if y = x then 0 else idxN x ys + 1
def placesN (n : Nat) : List Int := (upsN n n).map fun s => ((idxN (n : Int) s : Nat) : Int)
def smallN (n : Nat) : List Int := (List.range n).map fun (p : Nat) => (((placesN n).countP (fun z => z == (p : Int)) : Nat) : Int)
def bigAt (n l : Nat) : Int := if l % 2 = 1 then (chosenN (n - 1)).getD l 0 * (foundN n).getD l 0 * (foundN n).getD (n - 1 - l) 0 else 0
def bigN (n : Nat) : List Int := (List.range n).map (bigAt n)
def dueN (n : Nat) : List Int := if n < 9 then smallN n else bigN n
set_option maxRecDepth 100000 in
theorem full_due : ((List.range 41).all fun n => decide (n = 0) || decide (dueN n = fullL n)) = true := by decide +kernel
set_option maxRecDepth 100000 in
theorem full_forty : (fullL 40).sum = (foundN 40).getD 40 0 := by decide +kernel
set_option maxRecDepth 100000 in
theorem ups_fit : ((List.range 9).all fun n => decide ((upsN n n).length < 2000) && (decide (n = 0) || (upsN n n).all fun s => s.contains (n : Int))) = true ∧ ((List.range 9).all fun n => (List.range 9).all fun k => decide ((upsN n k).length < 100000)) = true := by decide +kernel
set_option maxRecDepth 100000 in
theorem ch_small : ((List.range 61).all fun t => (List.range (t + 1)).all fun k => decide ((chF (t : Int) k).natAbs < 2 ^ 64)) = true := by decide +kernel
set_option maxRecDepth 100000 in
theorem row_small : ((List.range 60).all fun i => (rowN i).all fun x => decide (x.natAbs < 2 ^ 400)) = true := by decide +kernel
set_option maxRecDepth 100000 in
theorem found_small : ((List.range 41).all fun i => ((foundN i).all fun x => decide (x.natAbs < 2 ^ 400)) && (chosenN i).all fun x => decide (x.natAbs < 2 ^ 400)) = true := by decide +kernel
theorem dueN_eq {n : Nat} (h1 : 1 ≤ n) (h : n ≤ 40) : dueN n = fullL n := by
  have z := List.all_eq_true.mp full_due n (List.mem_range.mpr (by omega))
  rw [Bool.or_eq_true] at z
  cases z with
  | inl z => have := of_decide_eq_true z; omega
  | inr z => exact of_decide_eq_true z
theorem chF_lt {t k : Nat} (h : t ≤ 60) (hk : k ≤ t) : (chF (t : Int) k).natAbs < 2 ^ 64 := of_decide_eq_true (List.all_eq_true.mp (List.all_eq_true.mp ch_small t (List.mem_range.mpr (by omega))) k (List.mem_range.mpr (by omega)))
theorem rowN_lt {i : Nat} (h : i < 60) : ∀ x ∈ rowN i, x.natAbs < 2 ^ 400 := fun x hx => of_decide_eq_true (List.all_eq_true.mp (List.all_eq_true.mp row_small i (List.mem_range.mpr h)) x hx)
theorem sideN_lt {u : Bool} {i : Nat} (h : i < 60) : ∀ x ∈ sideN u i, x.natAbs < 2 ^ 400 := fun x hx => by
  unfold sideN at hx
  split at hx
  · exact rowN_lt h x hx
  · exact rowN_lt h x (List.mem_reverse.mp hx)
theorem foundN_lt {i : Nat} (h : i ≤ 40) : (∀ x ∈ foundN i, x.natAbs < 2 ^ 400) ∧ ∀ x ∈ chosenN i, x.natAbs < 2 ^ 400 := by
  have z := List.all_eq_true.mp found_small i (List.mem_range.mpr (by omega))
  rw [Bool.and_eq_true] at z
  exact ⟨fun x hx => of_decide_eq_true (List.all_eq_true.mp z.1 x hx), fun x hx => of_decide_eq_true (List.all_eq_true.mp z.2 x hx)⟩
theorem ups_has {n : Nat} (h0 : 1 ≤ n) (h : n < 9) : (upsN n n).length < 2000 ∧ ∀ s ∈ upsN n n, s.contains (n : Int) = true := by
  have z := List.all_eq_true.mp ups_fit.1 n (List.mem_range.mpr h)
  rw [Bool.and_eq_true, Bool.or_eq_true] at z
  refine ⟨of_decide_eq_true z.1, ?_⟩
  cases z.2 with
  | inl e => have := of_decide_eq_true e; omega
  | inr e => exact fun s hs => List.all_eq_true.mp e s hs
theorem ups_few {n k : Nat} (h : n < 9) (hk : k < 9) : (upsN n k).length < 100000 := of_decide_eq_true (List.all_eq_true.mp (List.all_eq_true.mp ups_fit.2 n (List.mem_range.mpr h)) k (List.mem_range.mpr hk))
theorem idxN_at {x : Int} : ∀ {s : List Int}, s.contains x = true → s[idxN x s]? = some x ∧ ∀ m, m < idxN x s → s[m]? ≠ some x
  | [], h => by cases h
  | y :: ys, h => by
    unfold idxN
    by_cases e : y = x
    · rw [if_pos e]
      exact ⟨by rw [e]; rfl, fun m hm => absurd hm (Nat.not_lt_zero _)⟩
    · rw [if_neg e]
      have h' : ys.contains x = true := by
        rw [List.contains_cons, Bool.or_eq_true] at h
        cases h with
        | inl z => exact absurd (eq_of_beq z).symm e
        | inr z => exact z
      obtain ⟨i1, i2⟩ := idxN_at h'
      refine ⟨by rw [List.getElem?_cons_succ]; exact i1, fun m hm => ?_⟩
      cases m with
      | zero => rw [List.getElem?_cons_zero]; exact fun z => e (Option.some.inj z)
      | succ m => rw [List.getElem?_cons_succ]; exact i2 m (by omega)
end Up

set_option Elab.async false
set_option linter.all false
set_option maxRecDepth 100000
set_option maxHeartbeats 4000000
namespace K54
open PySem PySem.Spec PyProof.Rows L2 Up
abbrev pw : Program := PySem.Challenge.pw_upanddowns_k54_full_trees_counted
def topS (i : Nat) : Stmt := PySem.Challenge.pw_upanddowns_k54_full_trees_counted.main.body.getD i (.Pass ⟨0, 0, 0, 0⟩)
abbrev S_choose : Stmt := topS 1
abbrev N_choose : List Str := ["things", "taken", "found", "at"]
theorem sc_choose : FnScope N_choose ["things", "taken"] (defScope S_choose) := ⟨rfl, rfl, rfl, by decide +kernel, rfl, by decide +kernel, by decide +kernel⟩
abbrev S_is_whole : Stmt := topS 17
abbrev N_is_whole : List Str := ["thing"]
theorem sc_is_whole : FnScope N_is_whole ["thing"] (defScope S_is_whole) := ⟨rfl, rfl, rfl, by decide +kernel, rfl, by decide +kernel, by decide +kernel⟩
abbrev S_need_number : Stmt := topS 18
abbrev N_need_number : List Str := ["thing", "least", "most"]
theorem sc_need_number : FnScope N_need_number ["thing", "least", "most"] (defScope S_need_number) := ⟨rfl, rfl, rfl, by decide +kernel, rfl, by decide +kernel, by decide +kernel⟩
abbrev S_row_behind : Stmt := topS 22
abbrev N_row_behind : List Str := ["ahead", "sums", "number"]
theorem sc_row_behind : FnScope N_row_behind ["ahead"] (defScope S_row_behind) := ⟨rfl, rfl, rfl, by decide +kernel, rfl, by decide +kernel, by decide +kernel⟩
abbrev S_rows_to : Stmt := topS 23
abbrev N_rows_to : List Str := ["n", "rows"]
theorem sc_rows_to : FnScope N_rows_to ["n"] (defScope S_rows_to) := ⟨rfl, rfl, rfl, by decide +kernel, rfl, by decide +kernel, by decide +kernel⟩
abbrev S_row : Stmt := topS 24
abbrev N_row : List Str := ["n"]
theorem sc_row : FnScope N_row ["n"] (defScope S_row) := ⟨rfl, rfl, rfl, by decide +kernel, rfl, by decide +kernel, by decide +kernel⟩
abbrev S_ways_with : Stmt := topS 26
abbrev N_ways_with : List Str := ["n", "place", "number", "step", "ahead", "behind", "found", "lesser", "chosen"]
theorem sc_ways_with : FnScope N_ways_with ["n", "place", "number"] (defScope S_ways_with) := ⟨rfl, rfl, rfl, by decide +kernel, rfl, by decide +kernel, by decide +kernel⟩
abbrev S_full_by_left : Stmt := topS 28
abbrev N_full_by_left : List Str := ["n", "place"]
theorem sc_full_by_left : FnScope N_full_by_left ["n"] (defScope S_full_by_left) := ⟨rfl, rfl, rfl, by decide +kernel, rfl, by decide +kernel, by decide +kernel⟩
abbrev S_law_draw : Stmt := topS 30
abbrev N_law_draw : List Str := ["_law_cell", "_law_k", "_law_bound", "_law_left", "_law_j", "_law_stir"]
theorem sc_law_draw : FnScope N_law_draw ["_law_cell", "_law_k", "_law_bound"] (defScope S_law_draw) := ⟨rfl, rfl, rfl, by decide +kernel, rfl, by decide +kernel, by decide +kernel⟩
abbrev S_law_whole : Stmt := topS 31
abbrev N_law_whole : List Str := ["_law_found"]
theorem sc_law_whole : FnScope N_law_whole ["_law_found"] (defScope S_law_whole) := ⟨rfl, rfl, rfl, by decide +kernel, rfl, by decide +kernel, by decide +kernel⟩
abbrev S_law_class : Stmt := topS 32
abbrev N_law_class : List Str := ["_law_error", "_law_kinds", "_law_words"]
theorem sc_law_class : FnScope N_law_class ["_law_error"] (defScope S_law_class) := ⟨rfl, rfl, rfl, by decide +kernel, rfl, by decide +kernel, by decide +kernel⟩
abbrev S_law_refused : Stmt := topS 33
abbrev N_law_refused : List Str := ["_law_call", "_law_found", "_law_error"]
theorem sc_law_refused : FnScope N_law_refused ["_law_call"] (defScope S_law_refused) := ⟨rfl, rfl, rfl, by decide +kernel, rfl, by decide +kernel, by decide +kernel⟩
abbrev S_law_counts : Stmt := topS 34
abbrev N_law_counts : List Str := ["_law_n", "_law_found", "_law_some", "_law_rank"]
theorem sc_law_counts : FnScope N_law_counts ["_law_n"] (defScope S_law_counts) := ⟨rfl, rfl, rfl, by decide +kernel, rfl, by decide +kernel, by decide +kernel⟩
abbrev S_law_all_updowns : Stmt := topS 35
abbrev N_law_all_updowns : List Str := ["_law_n", "_law_found", "_law_k", "_law_longer", "_law_some", "_law_one"]
theorem sc_law_all_updowns : FnScope N_law_all_updowns ["_law_n"] (defScope S_law_all_updowns) := ⟨rfl, rfl, rfl, by decide +kernel, rfl, by decide +kernel, by decide +kernel⟩
abbrev S_law_chosen : Stmt := topS 36
abbrev N_law_chosen : List Str := ["_law_n", "_law_found", "_law_turn", "_law_k"]
theorem sc_law_chosen : FnScope N_law_chosen ["_law_n"] (defScope S_law_chosen) := ⟨rfl, rfl, rfl, by decide +kernel, rfl, by decide +kernel, by decide +kernel⟩
abbrev S_law_by_left : Stmt := topS 37
abbrev N_law_by_left : List Str := ["_law_n", "_law_places", "_law_counts_here", "_law_chosen_here", "_law_left", "_law_some", "_law_place"]
theorem sc_law_by_left : FnScope N_law_by_left ["_law_n"] (defScope S_law_by_left) := ⟨rfl, rfl, rfl, by decide +kernel, rfl, by decide +kernel, by decide +kernel⟩
abbrev S_law : Stmt := topS 38
abbrev N_law : List Str := ["_law_script", "_law_n", "_law_due", "_law_turn", "_law_found", "_law_thing", "_law_cell", "_law_one"]
theorem sc_law : FnScope N_law ["_law_script"] (defScope S_law) := ⟨rfl, rfl, rfl, by decide +kernel, rfl, by decide +kernel, by decide +kernel⟩
structure Txt (K : PySem.W.Frag) (mg : Str → Option Value) : Prop where
  d_choose : ∃ fd, FnT K "choose" S_choose fd
  g_choose : mg "choose" = some (.ref (He.ga K "choose"))
  d_is_whole : ∃ fd, FnT K "is_whole" S_is_whole fd
  g_is_whole : mg "is_whole" = some (.ref (He.ga K "is_whole"))
  d_need_number : ∃ fd, FnT K "need_number" S_need_number fd
  g_need_number : mg "need_number" = some (.ref (He.ga K "need_number"))
  d_row_behind : ∃ fd, FnT K "row_behind" S_row_behind fd
  g_row_behind : mg "row_behind" = some (.ref (He.ga K "row_behind"))
  d_rows_to : ∃ fd, FnT K "rows_to" S_rows_to fd
  g_rows_to : mg "rows_to" = some (.ref (He.ga K "rows_to"))
  d_row : ∃ fd, FnT K "row" S_row fd
  g_row : mg "row" = some (.ref (He.ga K "row"))
  d_ways_with : ∃ fd, FnT K "ways_with" S_ways_with fd
  g_ways_with : mg "ways_with" = some (.ref (He.ga K "ways_with"))
  d_full_by_left : ∃ fd, FnT K "full_by_left" S_full_by_left fd
  g_full_by_left : mg "full_by_left" = some (.ref (He.ga K "full_by_left"))
  d_law_draw : ∃ fd, FnT K "_law_draw" S_law_draw fd
  g_law_draw : mg "_law_draw" = some (.ref (He.ga K "_law_draw"))
  d_law_whole : ∃ fd, FnT K "_law_whole" S_law_whole fd
  g_law_whole : mg "_law_whole" = some (.ref (He.ga K "_law_whole"))
  d_law_class : ∃ fd, FnT K "_law_class" S_law_class fd
  g_law_class : mg "_law_class" = some (.ref (He.ga K "_law_class"))
  d_law_refused : ∃ fd, FnT K "_law_refused" S_law_refused fd
  g_law_refused : mg "_law_refused" = some (.ref (He.ga K "_law_refused"))
  d_law_counts : ∃ fd, FnT K "_law_counts" S_law_counts fd
  g_law_counts : mg "_law_counts" = some (.ref (He.ga K "_law_counts"))
  d_law_all_updowns : ∃ fd, FnT K "_law_all_updowns" S_law_all_updowns fd
  g_law_all_updowns : mg "_law_all_updowns" = some (.ref (He.ga K "_law_all_updowns"))
  d_law_chosen : ∃ fd, FnT K "_law_chosen" S_law_chosen fd
  g_law_chosen : mg "_law_chosen" = some (.ref (He.ga K "_law_chosen"))
  d_law_by_left : ∃ fd, FnT K "_law_by_left" S_law_by_left fd
  g_law_by_left : mg "_law_by_left" = some (.ref (He.ga K "_law_by_left"))
  d_law : ∃ fd, FnT K "law" S_law fd
  g_law : mg "law" = some (.ref (He.ga K "law"))
  n_isinstance : mg "isinstance" = none
  n_int : mg "int" = none
  n_bool : mg "bool" = none
  n_len : mg "len" = none
  n_sum : mg "sum" = none
  n_range : mg "range" = none
  n_list : mg "list" = none
  n_all : mg "all" = none
  n_max : mg "max" = none
  n_min : mg "min" = none
  n_ValueError : mg "ValueError" = none
  c_MOST : ∃ t, mg "MOST" = some (.int 40 t)
  c_MOST_ROWS : ∃ t, mg "MOST_ROWS" = some (.int 60 t)
  g_TurnError : mg "TurnError" = some (.ref (He.ga K "TurnError"))
  g_NoOrder : mg "NoOrder" = some (.ref (He.ga K "NoOrder"))
  g_NoNumber : mg "NoNumber" = some (.ref (He.ga K "NoNumber"))
  g_NoRow : mg "NoRow" = some (.ref (He.ga K "NoRow"))
  g_NotUpDown : mg "NotUpDown" = some (.ref (He.ga K "NotUpDown"))
  g_NoPattern : mg "NoPattern" = some (.ref (He.ga K "NoPattern"))
  g_NoTree : mg "NoTree" = some (.ref (He.ga K "NoTree"))
  g_NoLoose : mg "NoLoose" = some (.ref (He.ga K "NoLoose"))
  g_NoRing : mg "NoRing" = some (.ref (He.ga K "NoRing"))
  g_NoFraction : mg "NoFraction" = some (.ref (He.ga K "NoFraction"))
  g_NoText : mg "NoText" = some (.ref (He.ga K "NoText"))
  g_NoDeed : mg "NoDeed" = some (.ref (He.ga K "NoDeed"))
  g_NoLine : mg "NoLine" = some (.ref (He.ga K "NoLine"))
  x_NoNumber : PySem.W.excIn K (He.ga K "NoNumber") He.veBase "ValueError.__new__" = true
  k_NoNumber : PySem.W.keepIn K (.ref (He.ga K "NoNumber")) = true
  b_NoNumber : PySem.W.subIn K (.ref (He.ga K "NoNumber")) (.type "BaseException") = some true
  t_NoNumber : PySem.W.typeIn K (.ref (He.ga K "NoNumber")) = some (.type "type")
  j_NoNumber : ClassIs K (He.ga K "NoNumber") 1
section
variable {P : Program} {w : World} {K : PySem.W.Frag} {mg : Str → Option Value} {base : Heap}
theorem ok_is_whole (T : Txt K mg) : DefOk P w K mg base CX0 1 "is_whole" ["thing"] (spWhole K) := by
  refine def_of T.d_is_whole T.g_is_whole (fun _ _ _ _ _ _ us hl => match us, hl with | [_], _ => rfl) fun fd F => ?_
  refine F.ok sc_is_whole (fun vs H Q E h => ?_) (fun cdv A outer s H vs Q E hr h => ?_)
  · obtain ⟨x, b, rfl, _⟩ := h; rfl
  · obtain ⟨x, b, rfl, hT, q⟩ := h
    obtain ⟨ty, hty, hm, hb⟩ := hT.ex
    refine ⟨_, PSs.nox (pss_one (ps_ret (pe_and (pe_callB (isiK K) (by rfl) T.n_isinstance (by decide +kernel) (pa_cons (pv 0) (pa_cons (pe_bltn (v := .ty "int") (u := .type "int") (by rfl) T.n_int (by decide +kernel) rfl) pa_nil))) (pe_one (pe_not (pe_callB (isiK K) (by rfl) T.n_isinstance (by decide +kernel) (pa_cons (pv 0) (pa_cons (pe_bltn (v := .ty "bool") (u := .type "bool") (by rfl) T.n_bool (by decide +kernel) rfl) pa_nil)))))))), ?_⟩
    refine ⟨_, rfl, _, _, _, _, _, rfl, .ty "int", hty, kit_ty (kit_int ty hm), _, rfl, ite2 (fun c => ?_) (fun c => ?_)⟩
    · refine ⟨_, rfl, _, _, _, _, _, rfl, .ty "bool", hty, kit_ty (kit_bool ty hm), _, rfl, ?_⟩
      have e : (!(ty == "bool")) = b := by
        rw [← hb]; exact kit_whole ty hm c
      rw [e]; exact q
    · have e : (ty == "int" || ty == "bool") = false := by simpa using c
      have e2 : b = false := by rw [← hb]; rw [Bool.or_eq_false_iff] at e; exact e.1
      rw [e2] at q; exact q

theorem ok_need_number (T : Txt K mg) : DefOk P w K mg base (L2.CX P w) 2 "need_number" ["thing", "least", "most"] (spNeed K (He.ga K "NoNumber")) := by
  have D_is_whole : DefOk P w K mg base CX0 1 "is_whole" ["thing"] (spWhole K) := ok_is_whole T
  refine def_of T.d_need_number T.g_need_number (fun _ _ _ _ _ _ us hl => match us, hl with | [_, _, _], _ => rfl) fun fd F => ?_
  refine F.ok sc_need_number (fun vs H Q E h => ?_) (fun cdv A outer s H vs Q E hr h => ?_)
  · obtain ⟨x, a, b, z, rfl, _⟩ := h; rfl
  · obtain ⟨x, a, b, z, rfl, ha, hb, hT, kY, kN⟩ := h
    refine ⟨_, (pss_cons (ps_if (pt_not (pt_val (pe_callD D_is_whole hr (by rfl) pass0 (pa_cons (pv 0) pa_nil)))) (pss_one (ps_raise rfl (takes_of rfl rfl rfl rfl) (pmk_own PySem.F.excBase_ValueError T.x_NoNumber T.g_NoNumber T.k_NoNumber (raises_own T.b_NoNumber T.t_NoNumber) (by exact rfl)))) pss_nil)
 (pss_one (ps_if (PW.pt (pw_or (pt_cmpR op_lt (pv 0) (pv 1) (nomark _)) (pw_or1 (pt_cmpR op_gt (pv 0) (pv 2) (nomark _))))) (pss_one (ps_raise rfl (takes_of rfl rfl rfl rfl) (SkE.pmk_own1 PySem.F.excBase_ValueError T.x_NoNumber T.g_NoNumber T.k_NoNumber (raises_own T.b_NoNumber T.t_NoNumber) (by exact rfl) (pe_joined (PJ.cons pe_str (PJ.cons (pe_fmt (pv 1)) (PJ.cons pe_str (PJ.cons (pe_fmt (pv 2)) PJ.nil)))))))) pss_nil))), ?_⟩
    refine ⟨_, rfl, x, z, rfl, hT, z, rfl, ?_⟩
    cases z with
    | false =>
      refine iteT ?_
      refine kN fun ⟨i, e, _⟩ => hT.non rfl i e
    | true =>
      refine iteF ?_
      obtain ⟨i, rfl⟩ := hT.int rfl
      refine ⟨_, rfl, _, rfl, _, _, rfl, rfl, _, rfl, ?_⟩
      have bad : ¬ NumOk (.int i) a b → _ := kN
      refine ite2 (fun c => ?_) (fun c => ?_)
      · refine iteT ?_
        refine ⟨_, rfl, by decide +kernel, _, rfl, .inr ⟨a, rfl, ha.1, _, rfl, ha.2.1, _, rfl, ha.2.2, _, rfl, .inr ⟨b, rfl, hb.1, _, rfl, hb.2, bad fun ⟨j, e, h1, h2⟩ => ?_⟩⟩⟩
        cases e
        have := of_decide_eq_true c
        omega
      · refine ⟨_, rfl, _, rfl, _, _, rfl, rfl, _, rfl, ?_⟩
        refine ite2 (fun d => ?_) (fun d => ?_)
        · refine ⟨_, rfl, by decide +kernel, _, rfl, .inr ⟨a, rfl, ha.1, _, rfl, ha.2.1, _, rfl, ha.2.2, _, rfl, .inr ⟨b, rfl, hb.1, _, rfl, hb.2, bad fun ⟨j, e, h1, h2⟩ => ?_⟩⟩⟩
          cases e
          have := of_decide_eq_true d
          omega
        · exact kY ⟨i, rfl, by
            have := of_decide_eq_false (Bool.eq_false_iff.mpr c)
            omega, by
            have := of_decide_eq_false (Bool.eq_false_iff.mpr d)
            omega⟩

theorem ok_law_draw (T : Txt K mg) : DefOk P w K mg base CX0 1 "_law_draw" ["_law_cell", "_law_k", "_law_bound"] spDraw := by
  refine def_of T.d_law_draw T.g_law_draw (fun _ _ _ _ _ _ us hl => match us, hl with | [_, _, _], _ => rfl) fun fd F => ?_
  refine F.ok sc_law_draw (fun vs H Q E h => ?_) (fun cdv A outer s H vs Q E hr h => ?_)
  · obtain ⟨c, k, b, rfl, _⟩ := h; rfl
  · obtain ⟨c, k, b, rfl, k0, k1, b0, b1, q⟩ := h
    refine ⟨_, PSs.nox (pss_cons (ps_if (pt_cmpR op_ge (pv 0) (pe_op op_pow pe_int pe_int) (nomark _)) (pss_cons (ps_set (i := 3) sc_law_draw.nd rfl (Or.inl rfl) (pv 0))
 (pss_cons (ps_for PassesOwn.never rfl (pi_range1 (by rfl) T.n_range (pa_cons (pv 1) pa_nil)) (pg_name (i := 4) sc_law_draw.nd rfl (Or.inl rfl)) (pss_one (ps_set (i := 3) sc_law_draw.nd rfl (Or.inl rfl) (pe_op op_fdiv (pv 3) (pv 2)))))
 (pss_one (ps_ret (pe_op op_mod (pv 3) (pv 2)))))) pss_nil)
 (pss_cons (ps_set (i := 5) sc_law_draw.nd rfl (Or.inl rfl) (pe_op op_mod (pe_op op_mul (pe_op op_add (pe_op op_add (pe_op op_mod (pv 0) pe_int) (pe_op op_mul pe_int (pv 1))) pe_int) pe_int) pe_int))
 (pss_cons (ps_set (i := 5) sc_law_draw.nd rfl (Or.inl rfl) (pe_op op_mod (pe_op op_add (pe_op op_add (pe_op op_mul (pv 5) (pv 5)) (pe_op op_mul pe_int (pv 1))) pe_int) pe_int))
 (pss_one (ps_ret (pe_op op_mod (pe_op op_fdiv (pe_op op_mod (pe_op op_mul (pv 5) pe_int) pe_int) pe_int) (pv 2))))))), ?_⟩
    have rng : ∀ z : Int, 0 ≤ z % b ∧ z % b < b := fun z => ⟨Int.emod_nonneg z (by omega), Int.emod_lt_of_pos z (by omega)⟩
    refine ⟨_, rfl, _, _, rfl, rfl, ⟨by decide, by decide, by decide⟩, _, _, rfl, rfl, _, rfl, ite2 (fun e => ?_) (fun e => ?_)⟩
    · refine ⟨_, rfl, _, rfl, k, rfl, by omega, by omega, for_range (lo := 0) (n := k.toNat) (fun i σ H' => ∃ l y z, σ = [some (.int c), some (.int k), some (.int b), some (.int l), y, z] ∧ H' = H) ⟨c, none, none, rfl, rfl⟩ ?_ ?_⟩
      · rintro i σ H' hi ⟨l, y, z, rfl, rfl⟩
        exact ⟨_, rfl, _, rfl, _, _, rfl, rfl, ⟨b0, b1⟩, _, _, _, rfl, rfl⟩
      · rintro σ H' ⟨l, y, z, rfl, rfl⟩
        exact ⟨_, rfl, _, rfl, _, _, rfl, rfl, b0, q _ (rng l).1 (rng l).2⟩
    · have m1 := Int.emod_nonneg c (show (1000000007 : Int) ≠ 0 by decide)
      have m2 := Int.emod_lt_of_pos c (show (0 : Int) < 1000000007 by decide)
      refine ⟨_, rfl, _, _, rfl, rfl, (by show (0 : Int) < 1000000007; decide), _, rfl, _, _, rfl, rfl, .inl ⟨by decide, by decide⟩, _, _, rfl, rfl, _, _, rfl, rfl, _, _, rfl, rfl, .inr ⟨by decide, by decide⟩, _, _, rfl, rfl, (by show (0 : Int) < 2147483647; decide), ?_⟩
      generalize hs : ((c % 1000000007 + 1009 * k + 17) * 69621) % 2147483647 = st
      have s1 : 0 ≤ st := by rw [← hs]; exact Int.emod_nonneg _ (by decide)
      have s2 : st < 2147483647 := by rw [← hs]; exact Int.emod_lt_of_pos _ (by decide)
      refine ⟨_, rfl, _, rfl, _, _, rfl, rfl, .inl ⟨by omega, by omega⟩, _, rfl, _, _, rfl, rfl, .inl ⟨by decide, by decide⟩, _, _, rfl, rfl, _, _, rfl, rfl, _, _, rfl, rfl, (by show (0 : Int) < 2147483629; decide), ?_⟩
      generalize (st * st + 40503 * k + 5) % 2147483629 = su
      refine ⟨_, rfl, _, _, rfl, rfl, .inr ⟨by decide, by decide⟩, _, _, rfl, rfl, (by show (0 : Int) < 2147483647; decide), _, _, rfl, rfl, ⟨by decide, by decide⟩, _, rfl, _, _, rfl, rfl, b0, q _ (rng _).1 (rng _).2⟩

def spLawWhole : Sp := fun vs H Q _ => ∃ i : Int, vs = [.int i] ∧ Q (.bl true) H
theorem kit_ii {K : PySem.W.Frag} : PySem.W.kitOne K (.type "int") (.type "int") = some true := kit_ty (by decide +kernel)
theorem ok_law_whole (T : Txt K mg) : DefOk P w K mg base CX0 1 "_law_whole" ["_law_found"] spLawWhole := by
  refine def_of T.d_law_whole T.g_law_whole (fun _ _ _ _ _ _ us hl => match us, hl with | [_], _ => rfl) fun fd F => ?_
  refine F.ok sc_law_whole (fun vs H Q E h => ?_) (fun cdv A outer s H vs Q E hr h => ?_)
  · obtain ⟨i, rfl, _⟩ := h; rfl
  · obtain ⟨i, rfl, q⟩ := h
    refine ⟨_, PSs.nox (pss_one (ps_ret (pe_and (pe_callB (isiK K) (by rfl) T.n_isinstance (by decide +kernel) (pa_cons (pv 0) (pa_cons (pe_bltn (v := .ty "int") (u := .type "int") (by rfl) T.n_int (by decide +kernel) rfl) pa_nil))) (pe_one (pe_not (pe_callB (isiK K) (by rfl) T.n_isinstance (by decide +kernel) (pa_cons (pv 0) (pa_cons (pe_bltn (v := .ty "bool") (u := .type "bool") (by rfl) T.n_bool (by decide +kernel) rfl) pa_nil)))))))), ?_⟩
    refine ⟨_, rfl, _, _, _, _, _, rfl, .ty "int", .base (.int _), kit_ii, _, rfl, iteT ?_⟩
    exact ⟨_, rfl, _, _, _, _, _, rfl, .ty "bool", .base (.int _), kit_ib, _, rfl, q⟩

theorem ok_law_class (T : Txt K mg) : PinOkD P w K mg base 1 "_law_class" ["_law_error"] (spClass K) := by
  refine pindef_of T.d_law_class T.g_law_class (fun _ _ _ _ _ _ us hl => match us, hl with | [_], _ => rfl) fun fd F => ?_
  refine pin_of F sc_law_class (fun p vs H Q E h => ?_) (fun cdv A outer s H vs Q E p hr h => ?_)
  · obtain ⟨rfl, _⟩ := h; rfl
  · obtain ⟨rfl, C, j, wd, hz, hf, hC, hw, q⟩ := h
    refine ⟨_, (pss_cons (ps_if (PW.pt (pw_or (pt_not (pt_val (pe_callB (call_isPin hC.exc hz hf (List.mem_singleton.mpr rfl)) (by rfl) T.n_isinstance (by decide +kernel) (pa_cons (pv 0) (pa_cons (pe_glob (v := .ref (He.ga K "TurnError")) rfl T.g_TurnError rfl) pa_nil))))) (pw_or1 (pt_not (pt_val (pe_callB (call_isPin hC.exc hz hf (List.mem_singleton.mpr rfl)) (by rfl) T.n_isinstance (by decide +kernel) (pa_cons (pv 0) (pa_cons (pe_bltn (v := .ty "ValueError") (u := .type "ValueError") (by rfl) T.n_ValueError (by decide +kernel) rfl) pa_nil)))))))) (pss_one (ps_ret pe_str)) pss_nil)
 (pss_cons (ps_set (i := 1) sc_law_class.nd rfl (Or.inl rfl) (pe_lst (pa_cons (pe_callB (call_isPin hC.exc hz hf (List.mem_singleton.mpr rfl)) (by rfl) T.n_isinstance (by decide +kernel) (pa_cons (pv 0) (pa_cons (pe_glob (v := .ref (He.ga K "NoOrder")) rfl T.g_NoOrder rfl) pa_nil))) (pa_cons (pe_callB (call_isPin hC.exc hz hf (List.mem_singleton.mpr rfl)) (by rfl) T.n_isinstance (by decide +kernel) (pa_cons (pv 0) (pa_cons (pe_glob (v := .ref (He.ga K "NoNumber")) rfl T.g_NoNumber rfl) pa_nil))) (pa_cons (pe_callB (call_isPin hC.exc hz hf (List.mem_singleton.mpr rfl)) (by rfl) T.n_isinstance (by decide +kernel) (pa_cons (pv 0) (pa_cons (pe_glob (v := .ref (He.ga K "NoRow")) rfl T.g_NoRow rfl) pa_nil))) pa_nil)))))
 (pss_cons (ps_set (i := 1) sc_law_class.nd rfl (Or.inl rfl) (pe_op op_cat (pv 1) (pe_lst (pa_cons (pe_callB (call_isPin hC.exc hz hf (List.mem_singleton.mpr rfl)) (by rfl) T.n_isinstance (by decide +kernel) (pa_cons (pv 0) (pa_cons (pe_glob (v := .ref (He.ga K "NotUpDown")) rfl T.g_NotUpDown rfl) pa_nil))) (pa_cons (pe_callB (call_isPin hC.exc hz hf (List.mem_singleton.mpr rfl)) (by rfl) T.n_isinstance (by decide +kernel) (pa_cons (pv 0) (pa_cons (pe_glob (v := .ref (He.ga K "NoPattern")) rfl T.g_NoPattern rfl) pa_nil))) (pa_cons (pe_callB (call_isPin hC.exc hz hf (List.mem_singleton.mpr rfl)) (by rfl) T.n_isinstance (by decide +kernel) (pa_cons (pv 0) (pa_cons (pe_glob (v := .ref (He.ga K "NoTree")) rfl T.g_NoTree rfl) pa_nil))) pa_nil))))))
 (pss_cons (ps_set (i := 1) sc_law_class.nd rfl (Or.inl rfl) (pe_op op_cat (pv 1) (pe_lst (pa_cons (pe_callB (call_isPin hC.exc hz hf (List.mem_singleton.mpr rfl)) (by rfl) T.n_isinstance (by decide +kernel) (pa_cons (pv 0) (pa_cons (pe_glob (v := .ref (He.ga K "NoLoose")) rfl T.g_NoLoose rfl) pa_nil))) (pa_cons (pe_callB (call_isPin hC.exc hz hf (List.mem_singleton.mpr rfl)) (by rfl) T.n_isinstance (by decide +kernel) (pa_cons (pv 0) (pa_cons (pe_glob (v := .ref (He.ga K "NoRing")) rfl T.g_NoRing rfl) pa_nil))) (pa_cons (pe_callB (call_isPin hC.exc hz hf (List.mem_singleton.mpr rfl)) (by rfl) T.n_isinstance (by decide +kernel) (pa_cons (pv 0) (pa_cons (pe_glob (v := .ref (He.ga K "NoFraction")) rfl T.g_NoFraction rfl) pa_nil))) pa_nil))))))
 (pss_cons (ps_set (i := 1) sc_law_class.nd rfl (Or.inl rfl) (pe_op op_cat (pv 1) (pe_lst (pa_cons (pe_callB (call_isPin hC.exc hz hf (List.mem_singleton.mpr rfl)) (by rfl) T.n_isinstance (by decide +kernel) (pa_cons (pv 0) (pa_cons (pe_glob (v := .ref (He.ga K "NoText")) rfl T.g_NoText rfl) pa_nil))) (pa_cons (pe_callB (call_isPin hC.exc hz hf (List.mem_singleton.mpr rfl)) (by rfl) T.n_isinstance (by decide +kernel) (pa_cons (pv 0) (pa_cons (pe_glob (v := .ref (He.ga K "NoDeed")) rfl T.g_NoDeed rfl) pa_nil))) (pa_cons (pe_callB (call_isPin hC.exc hz hf (List.mem_singleton.mpr rfl)) (by rfl) T.n_isinstance (by decide +kernel) (pa_cons (pv 0) (pa_cons (pe_glob (v := .ref (He.ga K "NoLine")) rfl T.g_NoLine rfl) pa_nil))) pa_nil))))))
 (pss_cons (ps_if (pt_cmpR op_ne (pe_bm PySem.F.plainAttrs_list PySem.F.slot_list_count PySem.F.type_list_count mt_countF (pv 1) (pa_cons pe_bl pa_nil)) pe_int (nomark _)) (pss_one (ps_ret pe_str)) pss_nil)
 (pss_cons (ps_set (i := 2) sc_law_class.nd rfl (Or.inl rfl) (pe_lst (pa_cons pe_str (pa_cons pe_str (pa_cons pe_str (pa_cons pe_str (pa_cons pe_str (pa_cons pe_str (pa_cons pe_str (pa_cons pe_str (pa_cons pe_str (pa_cons pe_str (pa_cons pe_str (pa_cons pe_str pa_nil))))))))))))))
 (pss_one (ps_ret (pe_ix (ixLK K) (pv 2) (pe_bm PySem.F.plainAttrs_list PySem.F.slot_list_index PySem.F.type_list_index mt_index (pv 1) (pa_cons pe_bl pa_nil)) (fun _ _ => rfl))))))))))), ?_⟩
    refine ⟨_, rfl, _, _, _, rfl, fun _ r => r, hC.turn, _, rfl, iteF ?_⟩
    refine ⟨_, rfl, _, _, _, rfl, fun _ r => r, hC.val, _, rfl, iteF ?_⟩
    refine ⟨_, rfl, _, _, _, rfl, fun _ r => r, hC.each 0 _ rfl, _, rfl, _, _, _, rfl, fun _ r => r, hC.each 1 _ rfl, _, rfl, _, _, _, rfl, fun _ r => r, hC.each 2 _ rfl, sz 3, fun a0 n0 => ?_⟩
    refine ⟨_, rfl, _, rfl, _, _, _, rfl, fun _ r => r, hC.each 3 _ rfl, _, rfl, _, _, _, rfl, fun _ r => r, hC.each 4 _ rfl, _, rfl, _, _, _, rfl, fun _ r => r, hC.each 5 _ rfl, sz 3, fun a1 n1 => ?_⟩
    refine ⟨_, _, _, _, rfl, rfl, (same_new n1) _ _ upd_same, upd_same, sz 6, fun b1 m1 => ?_⟩
    refine ⟨_, rfl, _, rfl, _, _, _, rfl, fun _ r => r, hC.each 6 _ rfl, _, rfl, _, _, _, rfl, fun _ r => r, hC.each 7 _ rfl, _, rfl, _, _, _, rfl, fun _ r => r, hC.each 8 _ rfl, sz 3, fun a2 n2 => ?_⟩
    refine ⟨_, _, _, _, rfl, rfl, (same_new n2) _ _ upd_same, upd_same, sz 9, fun b2 m2 => ?_⟩
    refine ⟨_, rfl, _, rfl, _, _, _, rfl, fun _ r => r, hC.each 9 _ rfl, _, rfl, _, _, _, rfl, fun _ r => r, hC.each 10 _ rfl, _, rfl, _, _, _, rfl, fun _ r => r, hC.each 11 _ rfl, sz 3, fun a3 n3 => ?_⟩
    refine ⟨_, _, _, _, rfl, rfl, (same_new n3) _ _ upd_same, upd_same, sz 12, fun b3 m3 => ?_⟩
    have sA := ((((((same_new (o := .lst _) n0).trans (same_new (o := .lst _) n1)).trans (same_new (o := .lst _) m1)).trans (same_new (o := .lst _) n2)).trans (same_new (o := .lst _) m2)).trans (same_new (o := .lst _) n3)).trans (same_new (o := .lst (kindsAt j)) m3)
    refine ⟨_, rfl, .inl ⟨rfl, _, SqL.of upd_same⟩, b3, kindsAt j, .bl true, rfl, rfl, SqL.of upd_same, rfl, kinds_flat j, rfl, _, rfl, ?_⟩
    rw [kinds_count j hC.lt]
    refine iteF ?_
    refine ⟨sz 12, fun w1 o1 => ?_⟩
    have sB := sA.trans (same_new (o := .lst (words.map V.str)) o1)
    have eb : (upd _ w1 (.lst (words.map V.str))) b3 = some (.lst (kindsAt j)) := (same_new o1) _ _ upd_same
    refine ⟨_, rfl, _, rfl, .inl ⟨rfl, _, SqL.of eb⟩, b3, kindsAt j, .bl true, j, .bl true, rfl, rfl, SqL.of eb, rfl, kinds_flat j, kinds_here j hC.lt, rfl, fun m z hm hm2 => ?_, ?_⟩
    · rw [kinds_ahead j hC.lt m hm] at hm2
      cases hm2
      rfl
    · refine ⟨w1, _, _, .str wd, rfl, rfl, SqL.of upd_same, atI_nat ?_, q _ sB⟩
      show ((words.map V.str)[j]?) = some (.str wd)
      have e : words ++ words2 = words := List.append_nil words
      rw [e] at hw
      rw [List.getElem?_map, hw]; rfl

theorem ref_gives {X : Cx} {k : Nat} {gg : Addr} {cdg : Value} {qq : Str} (hr : Room (k + 2) X.A) (D : PinOkD X.prog X.w X.K X.mg X.base 1 "_law_class" ["_law_error"] (spClass X.K)) (hk : 1 ≤ k + 1) (gT : X.mg "TurnError" = some (.ref (He.ga X.K "TurnError"))) :
    LamX.GivesTo X N_law_refused "_law_refused" (defScope S_law_refused) gg cdg (defBody S_law_refused) "_law_call" qq (TRef X.K) := by
  intro f c' s H Q tl act hc h
  refine ⟨_, pss_cons (ps_set (i := 1) sc_law_refused.nd rfl (Or.inl rfl) pe_str) (pss_cons (ps_try_as (X := (cxOf C8.CX0 X.prog X.w X.K X.mg X.base N_law_refused "_law_refused" (defScope S_law_refused) gg cdg X.A X.stack s H C8.E0).nox) (i := 2) (c := .ref (He.ga X.K "TurnError"))
      (tb := fun W D σ H => ∃ E : XK, (∀ cls d σ' H', E cls d H' → σ'.length = 3 → W cls d σ' H') ∧ σ[0]? = some (some (.ref f)) ∧ H c' = some (LamX.CodeO c' qq) ∧ tl E H (fun _ H' => D.nx σ H'))
      (ts := fun a cls d => tAsg (tExc X.K 2 a cls d) (gName 1)) (Wout := fun _ _ _ _ => False) rfl rfl sc_law_refused.nd rfl rfl ⟨by rfl, by decide, .inl gT⟩ takes0 (fun W pn xe tk _ => ?_) (fun a oe cls d pn hz hf => ?_)) (pss_one (ps_ret (pv 1)))), ?_⟩
  · refine ⟨fun pins s' σ H' D I h' => ?_⟩
    obtain ⟨E, hE, h1, h2, h3⟩ := h'
    exact (pss_one (ps_expr (act (fun cls d σ H => σ.length = 3 → W cls d σ H) pn xe E _ _ (takes_len tk) hE))).run pins s' σ H' D I ⟨h1, h2, h3⟩
  · refine pss_one (ps_set (i := 1) sc_law_refused.nd rfl (Or.inl rfl) ?_)
    refine ⟨fun pins s' σ H' Q I h' => ?_⟩
    obtain ⟨e1, e2, C, j, wd, e3, hC, hw, hq⟩ := h'
    subst e2 e3
    exact (pe_callP (X := (cxOf C8.CX0 X.prog X.w X.K X.mg X.base N_law_refused "_law_refused" (defScope S_law_refused) gg cdg X.A X.stack s H C8.E0).nox.suite a ((a, oe) :: pn)) (sp := spClass X.K) (E := E0) (q := (a, oe)) D (roomH_mark ((hr.deeper _).mono hk)) List.mem_cons_self (by rfl) (pa_cons (pv 2) pa_nil)).run pins s' σ H' Q I ⟨_, e1, rfl, C, j, wd, hz, hf, hC, hw, hq⟩
  · refine ⟨fun cls d H' => d = none ∧ ∃ C j wd, cls = .ref C ∧ ClassIs X.K C j ∧ (words ++ words2)[j]? = some wd ∧ ∀ H'', Same H' H'' → Q (.str wd) H'', ?_, rfl, hc, ?_⟩
    · rintro cls d σ' H' ⟨e2, C, j, wd, e3, hC, hw, hq⟩ hl
      match σ', hl with
      | [x, y, z], _ =>
        subst e3
        exact ⟨true, hC.caught, fun _ a na => ⟨rfl, e2, C, j, wd, rfl, hC, hw, fun H'' sm => ⟨_, rfl, hq H'' sm⟩⟩, fun z => nomatch z⟩
    · exact h

theorem pe_refused {X : Cx} {k : Nat} {c Pt : Addr} {t : XK → TE} {params : Arguments} {body : Expr} {scope : Scope} {p lpos pos : Pos} (d : ∃ fd, FnT X.K "_law_refused" S_law_refused fd) (g : X.mg "_law_refused" = some (.ref (He.ga X.K "_law_refused"))) (D : PinOkD X.prog X.w X.K X.mg X.base 1 "_law_class" ["_law_error"] (spClass X.K))
    (gT : X.mg "TurnError" = some (.ref (He.ga X.K "TurnError"))) (TB : LamX.TabB X.base X.mg c Pt) (hr : Room (k + 2) X.A) (hcode : X.env.code = .ref c)
    (hbody : ∀ (A : Around) (outer : List Env) (s : Shared) (H : Hp) (E : XK) (f c' : Addr), Room k (A.deeper (LamX.lamEnv X scope s.heap.objs.size f c')) → PE (LamX.lamCx X A outer s H E scope f c') body (t E))
    (hg : Gl X "_law_refused" := by rfl) (L : LamX.LamS X.env.scope scope := by exact LamX.lamS_by (by decide +kernel)) (hdef : defaultsOf params X.env = ([], []) := by rfl)
    (hbind : ∀ (q : Str) (cl : List (Str × Addr)) (pm cv ctv : Value), bindArgs (PySem.W.kla_fn "<lambda>" q params body scope cl pm cv ctv) ⟨[], []⟩ = pure [] := by exact fun _ _ _ _ _ => rfl) :
    PE X (.Call (.Name "_law_refused" p) [.Lambda params body scope lpos] [] pos) (LamX.tLam [(Pt, X.env.qual ++ "<lambda>")] (TRef X.K) t) := by
  obtain ⟨fd, F⟩ := d
  have hb := F.bindsN (ps := ["_law_call"]) (fun _ _ _ _ _ _ us hl => match us, hl with | [_], _ => rfl)
  obtain ⟨oc, od, dV, kV, doc, pm, an, cdv, ct, osl, rfl, lk, hcd, _, _⟩ := F.ex
  exact LamX.pe_lamcall hg g F.kp lk hcd hb sc_law_refused rfl (Or.inl rfl) (ref_gives hr D (Nat.le_add_left 1 k) gT) TB hcode List.mem_cons_self (fun p hp _ => by rw [List.mem_singleton.mp hp]) hr L hdef hbind hbody


/-! ### the triangle -/
def spRowBehind (K : PySem.W.Frag) : Sp := fun vs H Q _ => ∃ (a : Addr) (ns : List Int), vs = [.ref a] ∧ SqL K H a (ns.map V.int) ∧ ns.length ≤ 100 ∧ ∀ H' p, Same H H' → H p = none → H' p = some (.lst ((nextRow ns).map V.int)) → Q (.ref p) H'
/-- rows, each an object of its own, new -/
structure Rows (H H' : Hp) (qs : List Addr) (n : Nat) : Prop where
  len : qs.length = n
  nd : qs.Nodup
  row : ∀ i q, qs[i]? = some q → H q = none ∧ H' q = some (.lst ((rowN i).map V.int))
def spRowsTo (K : PySem.W.Frag) (C : Addr) : Sp := fun vs H Q E => ∃ x z, vs = [x] ∧ Thing K H x z ∧ (¬ NumOk x 1 60 → E (.ref C) none H) ∧
  ∀ n : Nat, x = .int (n : Int) → 1 ≤ n → n ≤ 60 → ∀ H' p qs, Same H H' → H p = none → H' p = some (.lst (qs.map V.ref)) → p ∉ qs → Rows H H' qs n → Q (.ref p) H'
def spRow (K : PySem.W.Frag) (C : Addr) : Sp := fun vs H Q E => ∃ x z, vs = [x] ∧ Thing K H x z ∧ (¬ NumOk x 1 60 → E (.ref C) none H) ∧
  ∀ n : Nat, x = .int ((n + 1 : Nat) : Int) → n < 60 → ∀ H' p, Same H H' → H p = none → H' p = some (.lst ((rowN n).map V.int)) → Q (.ref p) H'
theorem short_one : Short 1 := by
  refine ⟨by decide +kernel, by decide +kernel, by decide +kernel⟩
theorem short_sixty : ((60 : Int).natAbs.log2 < 1920 ∧ (Str.empty ++ ("the number is not from " : Str) ++ (toString (1 : Int) : Str) ++ (" to " : Str) ++ (toString (60 : Int) : Str)).length ≤ sizeLine) := by
  refine ⟨by decide +kernel, by decide +kernel⟩
theorem last_ints {l : List Int} {z : Int} {xs : List Int} (e : xs = l ++ [z]) : atI (xs.map V.int) (-1) = some (.int z) := by
  rw [e, List.map_append]; exact atI_last _ _
theorem get_ints {ns : List Int} {i : Nat} {x : V} (h : (ns.map V.int)[i]? = some x) : ∃ z, ns[i]? = some z ∧ x = .int z := by
  rw [List.getElem?_map] at h
  cases e : ns[i]? with
  | none => rw [e] at h; cases h
  | some z => rw [e] at h; exact ⟨z, rfl, (Option.some.inj h).symm⟩
theorem sum_more {ns : List Int} {i : Nat} {z : Int} (h : ns[i]? = some z) : (sumsTo ns i ++ [(ns.take i).sum + z]) = sumsTo ns (i + 1) := by
  rw [sumsTo_succ, sum_take h]
theorem refs_last {qs : List Addr} {m : Nat} (h : qs.length = m + 1) : (qs.map V.ref) = (qs.dropLast.map V.ref) ++ [.ref (qs[m]'(by omega))] := by
  have e1 : qs ≠ [] := fun z => by rw [z] at h; cases h
  have e2 := List.dropLast_concat_getLast e1
  have e3 : qs.getLast e1 = qs[m]'(by omega) := by
    rw [List.getLast_eq_getElem]
    congr 1
    rw [h]; rfl
  rw [e3] at e2
  rw [← List.map_singleton, ← List.map_append, e2]
theorem ok_row_behind (T : Txt K mg) : DefOk P w K mg base CX0 1 "row_behind" ["ahead"] (spRowBehind K) := by
  refine def_of T.d_row_behind T.g_row_behind (fun _ _ _ _ _ _ us hl => match us, hl with | [_], _ => rfl) fun fd F => ?_
  refine F.ok sc_row_behind (fun vs H Q E h => ?_) (fun cdv A outer s H vs Q E hr h => ?_)
  · obtain ⟨a, ns, rfl, _⟩ := h; rfl
  · obtain ⟨a, ns, rfl, hS, hl, q⟩ := h
    refine ⟨_, PSs.nox (pss_cons (ps_set (i := 1) sc_row_behind.nd rfl (Or.inl rfl) (pe_lst (pa_cons pe_int pa_nil)))
 (pss_cons (ps_for PassesOwn.never rfl (pi_list (pv 0)) (pg_name (i := 2) sc_row_behind.nd rfl (Or.inl rfl)) (pss_one (ps_expr (pe_bm PySem.F.plainAttrs_list PySem.F.slot_list_append PySem.F.type_list_append mt_append (pv 1) (pa_cons (pe_op op_add (pe_ix (ixLK K) (pv 1) (pe_un un_neg pe_int) (fun _ _ => rfl)) (pv 2)) pa_nil)))))
 (pss_one (ps_ret (revLK K (pv 1)))))), ?_⟩
    refine ⟨sz 1, fun l nl => ?_⟩
    refine ⟨_, rfl, a, rfl, ⟨_, (same_new nl).seq hS⟩, for_list (xs := ns.map V.int) (fun i σ H' => ∃ y, σ = [some (.ref a), some (.ref l), y] ∧ Same H H' ∧ H' l = some (.lst ((sumsTo ns i).map V.int))) ⟨none, rfl, same_new nl, upd_same⟩ (fun i σ H' _ ⟨_, _, s5, _⟩ => s5.seq hS) ?_ ?_⟩
    · rintro i x σ H' hi ⟨y, rfl, s5, el⟩
      obtain ⟨z, hz, rfl⟩ := get_ints hi
      have hin : i < ns.length := (List.getElem?_eq_some_iff.mp hz).1
      obtain ⟨l0, e0⟩ := sumsTo_last ns i
      refine ⟨_, rfl, .inl ⟨rfl, _, SqL.of el⟩, _, rfl, _, rfl, l, _, _, _, rfl, rfl, SqL.of el, last_ints e0, _, rfl, _, _, rfl, rfl, l, _, _, rfl, rfl, el, ?_, ?_⟩
      · rw [List.length_map, sumsTo_len]; exact Nat.lt_of_le_of_lt (show i + 1 ≤ 1000 by omega) (by decide)
      · refine ⟨_, rfl, same_set s5 nl, ?_⟩
        rw [upd_same, ← sum_more hz, List.map_append]; rfl
    · rintro σ H' ⟨y, rfl, s5, el⟩
      refine ⟨_, rfl, l, _, rfl, SqL.of el, fun p np => q _ p (s5.trans (same_new np)) (s5.free np) ?_⟩
      rw [upd_same, ← List.map_reverse, List.length_map]; rfl

theorem ok_rows_to (T : Txt K mg) : DefOk P w K mg base (L2.CX P w) 3 "rows_to" ["n"] (spRowsTo K (He.ga K "NoNumber")) := by
  have D_need_number : DefOk P w K mg base (L2.CX P w) 2 "need_number" ["thing", "least", "most"] (spNeed K (He.ga K "NoNumber")) := ok_need_number T
  have D_row_behind : DefOk P w K mg base CX0 1 "row_behind" ["ahead"] (spRowBehind K) := ok_row_behind T
  refine def_of T.d_rows_to T.g_rows_to (fun _ _ _ _ _ _ us hl => match us, hl with | [_], _ => rfl) fun fd F => ?_
  refine F.ok sc_rows_to (fun vs H Q E h => ?_) (fun cdv A outer s H vs Q E hr h => ?_)
  · obtain ⟨x, z, rfl, _⟩ := h; rfl
  · obtain ⟨x, z, rfl, hT, kN, kY⟩ := h
    refine ⟨_, (pss_cons (ps_expr (pe_callD (E := E) D_need_number hr (by rfl) (passOut (takes_of rfl rfl rfl rfl)) (pa_cons (pv 0) (pa_cons pe_int (pa_cons (pe_glob (v := .int 60) rfl T.c_MOST_ROWS.choose_spec ⟨_, rfl⟩) pa_nil)))))
 (pss_cons (ps_set (i := 1) sc_rows_to.nd rfl (Or.inl rfl) (pe_lst (pa_cons (pe_lst (pa_cons pe_int pa_nil)) pa_nil)))
 (pss_cons (ps_while (passes_of rfl) (pt_cmpR op_lt (pe_callB (lenK K) (by rfl) T.n_len boot_len (pa_cons (pv 1) pa_nil)) (pv 0) (nomark _)) (pss_one (ps_expr (pe_bm PySem.F.plainAttrs_list PySem.F.slot_list_append PySem.F.type_list_append mt_append (pv 1) (pa_cons (pe_callD D_row_behind hr (by rfl) pass0 (pa_cons (pe_ix (ixLK K) (pv 1) (pe_un un_neg pe_int) (fun _ _ => rfl)) pa_nil)) pa_nil)))))
 (pss_one (ps_ret (pv 1)))))), ?_⟩
    refine ⟨_, rfl, x, 1, 60, z, rfl, short_one, short_sixty, hT, fun ok => ?_, kN⟩
    obtain ⟨i, rfl, h1, h2⟩ := ok
    obtain ⟨n, rfl⟩ : ∃ n : Nat, i = (n : Int) := ⟨i.toNat, by omega⟩
    refine ⟨sz 1, fun r nr => ?_⟩
    refine ⟨sz 1, fun p np => ?_⟩
    have npr : p ≠ r := fun e => by rw [e, upd_same] at np; cases np
    have fp : H p = none := (same_new nr).free np
    refine while_by (fun σ H' => ∃ k qs, σ = [some (.int (n : Int)), some (.ref p)] ∧ Same H H' ∧ H' p = some (.lst (qs.map V.ref)) ∧ p ∉ qs ∧ Rows H H' qs (k + 1) ∧ k + 1 ≤ n)
      (fun σ H' => match H' p with | some (.lst xs) => n - xs.length | _ => 0) ⟨0, [r], rfl, (same_new nr).trans (same_new np), upd_same, by simpa using npr, ⟨rfl, by simp, ?_⟩, by omega⟩ ?_ ?_
    · intro i q hq
      match i, hq with
      | 0, hq =>
        cases hq
        exact ⟨nr, by rw [upd_ne npr.symm]; exact upd_same⟩
    · rintro σ H' ⟨k, qs, rfl, sm, ep, npq, R, hk⟩
      refine ⟨_, rfl, p, _, rfl, .inl (SqL.of ep), _, rfl, _, _, rfl, rfl, _, rfl, ite2 (fun c => ?_) (fun c => ?_)⟩
      · have c := of_decide_eq_true c
        rw [List.length_map, R.len] at c
        have hq : k < qs.length := by rw [R.len]; omega
        have hqk := R.row k _ (List.getElem?_eq_getElem hq)
        have eL : (qs.map V.ref) = (qs.dropLast.map V.ref) ++ [.ref qs[k]] := by
          have e1 : qs ≠ [] := fun z => by rw [z] at hq; exact absurd hq (Nat.not_lt_zero _)
          have e2 := List.dropLast_concat_getLast e1
          have e3 : qs.getLast e1 = qs[k] := by
            rw [List.getLast_eq_getElem]
            congr 1
            rw [R.len]; rfl
          rw [e3] at e2
          rw [← List.map_singleton, ← List.map_append, e2]
        refine ⟨_, rfl, .inl ⟨rfl, _, SqL.of ep⟩, _, rfl, _, rfl, p, _, _, .ref qs[k], rfl, rfl, SqL.of ep, by rw [eL]; exact atI_last _ _, qs[k], rowN k, rfl, SqL.of hqk.2, by rw [rowN_len]; omega, fun H2 q s2 nq eq => ?_⟩
        refine ⟨p, qs.map V.ref, .ref q, rfl, rfl, s2 _ _ ep, by rw [List.length_map, R.len]; exact Nat.lt_of_le_of_lt (show k + 1 ≤ 1000 by omega) (by decide), ?_⟩
        have qp : q ≠ p := fun e => by rw [e, ep] at nq; cases nq
        have qnew : q ∉ qs := fun hm => by
          obtain ⟨j, hj, e⟩ := List.mem_iff_getElem.mp hm
          have z := (R.row j q (by rw [List.getElem?_eq_getElem hj, e])).2
          rw [z] at nq; cases nq
        have up1 : (upd H2 p (.lst (qs.map V.ref ++ [V.ref q]))) p = some (.lst ((qs ++ [q]).map V.ref)) := by rw [upd_same, List.map_append]; rfl
        refine ⟨⟨k + 1, qs ++ [q], rfl, same_set (sm.trans s2) fp, up1, by simp [npq, qp.symm], ⟨by rw [List.length_append, R.len]; rfl, List.nodup_append.mpr ⟨R.nd, by simp, fun a ha b hb => by rw [List.mem_singleton.mp hb]; exact fun e => qnew (by rw [← e]; exact ha)⟩, ?_⟩, by omega⟩, ?_⟩
        · intro j y hj
          by_cases hjk : j < qs.length
          · rw [List.getElem?_append_left hjk] at hj
            obtain ⟨z1, z2⟩ := R.row j y hj
            have yp : y ≠ p := fun e => npq (e ▸ List.mem_of_getElem? hj)
            exact ⟨z1, by rw [upd_ne yp]; exact s2 _ _ z2⟩
          · have hj2 : j = qs.length := by
              have := (List.getElem?_eq_some_iff.mp hj).1
              rw [List.length_append] at this
              simp at this
              omega
            subst hj2
            rw [List.getElem?_append_right (Nat.le_refl _), Nat.sub_self] at hj
            cases hj
            refine ⟨sm.free nq, ?_⟩
            rw [upd_ne qp, eq, R.len]; rfl
        · show (match (upd H2 p (.lst (qs.map V.ref ++ [V.ref q]))) p with | some (.lst xs) => n - xs.length | _ => 0) < (match H' p with | some (.lst xs) => n - xs.length | _ => 0)
          rw [upd_same, ep]
          show n - (qs.map V.ref ++ [V.ref q]).length < n - (qs.map V.ref).length
          rw [List.length_append, List.length_map, R.len]
          show n - (k + 1 + 1) < n - (k + 1)
          omega
      · have c := of_decide_eq_false (Bool.eq_false_iff.mpr c)
        rw [List.length_map, R.len] at c
        have e : k + 1 = n := by omega
        subst e
        exact ⟨_, rfl, kY _ rfl (by omega) (by omega) H' p qs sm fp ep npq R⟩
    · intro σ H' Q1 Q2 hq hc
      obtain ⟨v, e1, a, ys, e2, e3, v2, e4, i, j, e5, e6, b, e7, e8⟩ := hc
      exact ⟨v, e1, a, ys, e2, e3, v2, e4, i, j, e5, e6, b, e7, hq _ _ e8⟩

theorem ok_row (T : Txt K mg) : DefOk P w K mg base (L2.CX P w) 4 "row" ["n"] (spRow K (He.ga K "NoNumber")) := by
  have D_rows_to : DefOk P w K mg base (L2.CX P w) 3 "rows_to" ["n"] (spRowsTo K (He.ga K "NoNumber")) := ok_rows_to T
  refine def_of T.d_row T.g_row (fun _ _ _ _ _ _ us hl => match us, hl with | [_], _ => rfl) fun fd F => ?_
  refine F.ok sc_row (fun vs H Q E h => ?_) (fun cdv A outer s H vs Q E hr h => ?_)
  · obtain ⟨x, z, rfl, _⟩ := h; rfl
  · obtain ⟨x, z, rfl, hT, kN, kY⟩ := h
    refine ⟨_, (pss_one (ps_ret (pe_ix (ixLK K) (pe_callD (E := E) D_rows_to hr (by rfl) (passOut (takes_of rfl rfl rfl rfl)) (pa_cons (pv 0) pa_nil)) (pe_un un_neg pe_int) (fun _ _ => rfl)))), ?_⟩
    refine ⟨_, rfl, x, z, rfl, hT, kN, fun n e h1 h2 H' p qs sm fp ep npq R => ?_⟩
    obtain ⟨m, rfl⟩ : ∃ m, n = m + 1 := ⟨n - 1, by omega⟩
    have hm : m < qs.length := by rw [R.len]; omega
    have hq := R.row m _ (List.getElem?_eq_getElem hm)
    refine ⟨_, rfl, p, _, _, .ref qs[m], rfl, rfl, SqL.of ep, by rw [refs_last R.len]; exact atI_last _ _, kY m e (by omega) H' _ sm hq.1 hq.2⟩

theorem small_n {n : Nat} (h : n ≤ 1000) : n < sizeLine := Nat.lt_of_le_of_lt h (by decide)

def spChoose : Sp := fun vs H Q _ => ∃ (t : Int) (k : Nat), vs = [.int t, .int (k : Int)] ∧ k < 1000 ∧ -1000 ≤ t ∧ t ≤ 1000 ∧ Q (.int (chF t k)) H
theorem ok_choose (T : Txt K mg) : DefOk P w K mg base CX0 1 "choose" ["things", "taken"] spChoose := by
  refine def_of T.d_choose T.g_choose (fun _ _ _ _ _ _ us hl => match us, hl with | [_, _], _ => rfl) fun fd F => ?_
  refine F.ok sc_choose (fun vs H Q E h => ?_) (fun cdv A outer s H vs Q E hr h => ?_)
  · obtain ⟨t, k, rfl, _⟩ := h; rfl
  · obtain ⟨t, k, rfl, hk, t0, t1, q⟩ := h
    refine ⟨_, PSs.nox (pss_cons (ps_set (i := 2) sc_choose.nd rfl (Or.inl rfl) pe_int)
 (pss_cons (ps_for PassesOwn.never rfl (pi_range1 (by rfl) T.n_range (pa_cons (pv 1) pa_nil)) (pg_name (i := 3) sc_choose.nd rfl (Or.inl rfl)) (pss_one (ps_set (i := 2) sc_choose.nd rfl (Or.inl rfl) (pe_op op_fdiv (pe_op op_mul (pv 2) (pe_op op_sub (pv 0) (pv 3))) (pe_op op_add (pv 3) pe_int)))))
 (pss_one (ps_ret (pv 2))))), ?_⟩
    refine ⟨_, rfl, (k : Int), rfl, by omega, by omega, for_range (lo := 0) (n := ((k : Int)).toNat) (fun i σ H' => ∃ y, σ = [some (.int t), some (.int (k : Int)), some (.int (chF t i)), y] ∧ H' = H) ⟨none, rfl, rfl⟩ ?_ ?_⟩
    · rintro i σ H' hi ⟨y, rfl, rfl⟩
      rw [Int.zero_add]
      exact ⟨_, rfl, _, rfl, _, rfl, _, _, rfl, rfl, _, _, rfl, rfl, .inr ⟨by omega, by omega⟩, _, rfl, _, _, rfl, rfl, _, _, rfl, rfl, ⟨by omega, by omega⟩, _, rfl, rfl⟩
    · rintro σ H' ⟨y, rfl, rfl⟩
      exact ⟨_, rfl, by rw [Int.toNat_natCast]; exact q⟩

def spWays : Sp := fun vs H Q _ => ∃ n p b : Nat, vs = [.int (n : Int), .int ((p + 1 : Nat) : Int), .int ((b + 1 : Nat) : Int)] ∧ p < n ∧ b < n ∧ n ≤ 60 ∧ ∀ H', Same H H' → Q (.int (waysN n p b)) H'
theorem two_ints {a b c d : Int} (h1 : a = c) (h2 : b = d) : [V.int a, V.int b] = [V.int c, V.int d] := by rw [h1, h2]
theorem getI {l : List Int} {j : Nat} (h : j < l.length) : (l.map V.int)[j]? = some (.int (l.getD j 0)) := by
  rw [List.getElem?_map, List.getElem?_eq_getElem h, List.getD_eq_getElem?_getD, List.getElem?_eq_getElem h]; rfl
theorem memI {l : List Int} {j : Nat} (h : j < l.length) : l.getD j 0 ∈ l := by
  rw [List.getD_eq_getElem?_getD, List.getElem?_eq_getElem h]; exact List.getElem_mem h
theorem ok_ways_with (T : Txt K mg) : DefOk P w K mg base CX0 5 "ways_with" ["n", "place", "number"] spWays := by
  have D_row : DefOk P w K mg base (L2.CX P w) 4 "row" ["n"] (spRow K (He.ga K "NoNumber")) := ok_row T
  have D_choose : DefOk P w K mg base CX0 1 "choose" ["things", "taken"] spChoose := ok_choose T
  refine def_of T.d_ways_with T.g_ways_with (fun _ _ _ _ _ _ us hl => match us, hl with | [_, _, _], _ => rfl) fun fd F => ?_
  refine F.ok sc_ways_with (fun vs H Q E h => ?_) (fun cdv A outer s H vs Q E hr h => ?_)
  · obtain ⟨n, p, b, rfl, _⟩ := h; rfl
  · obtain ⟨n, p, b, rfl, hp, hb, hn, q⟩ := h
    refine ⟨_, PSs.nox (pss_cons (ps_set (i := 3) sc_ways_with.nd rfl (Or.inl rfl) (pe_ifExp (pt_cmpR op_eq (pe_op op_mod (pv 1) pe_int) pe_int (nomark _)) pe_int (pe_un un_neg pe_int)))
 (pss_cons (ps_set (i := 4) sc_ways_with.nd rfl (Or.inl rfl) (stepLK K (pe_callD D_row hr (by rfl) passL (pa_cons (pv 1) pa_nil)) (pv 3)))
 (pss_cons (ps_set (i := 5) sc_ways_with.nd rfl (Or.inl rfl) (stepLK K (pe_callD D_row hr (by rfl) passL (pa_cons (pe_op op_sub (pe_op op_add (pv 0) pe_int) (pv 1)) pa_nil)) (pv 3)))
 (pss_cons (ps_set (i := 6) sc_ways_with.nd rfl (Or.inl rfl) pe_int)
 (pss_cons (ps_for PassesOwn.never rfl (pi_range2 (by rfl) T.n_range (pa_cons (pe_callB (call_max2 rfl) (by rfl) T.n_max (by decide +kernel) (pa_cons pe_int (pa_cons (pe_op op_sub (pe_op op_sub (pe_op op_add (pv 1) (pv 2)) pe_int) (pv 0)) pa_nil))) (pa_cons (pe_callB (call_min2 rfl) (by rfl) T.n_min (by decide +kernel) (pa_cons (pv 1) (pa_cons (pv 2) pa_nil))) pa_nil))) (pg_name (i := 7) sc_ways_with.nd rfl (Or.inl rfl)) (pss_cons (ps_set (i := 8) sc_ways_with.nd rfl (Or.inl rfl) (pe_op op_mulW (pe_callD D_choose hr (by rfl) pass0 (pa_cons (pe_op op_sub (pv 2) pe_int) (pa_cons (pv 7) pa_nil))) (pe_callD D_choose hr (by rfl) pass0 (pa_cons (pe_op op_sub (pv 0) (pv 2)) (pa_cons (pe_op op_sub (pe_op op_sub (pv 1) pe_int) (pv 7)) pa_nil)))))
 (pss_one (ps_aug (i := 6) sc_ways_with.nd rfl (Or.inl rfl) (pe_op op_mulW (pe_op op_mulW (pv 8) (pe_ix (ixLK K) (pv 4) (pv 7) (fun _ _ => rfl))) (pe_ix (ixLK K) (pv 5) (pe_op op_sub (pe_op op_sub (pv 2) pe_int) (pv 7)) (fun _ _ => rfl))) ip_add))))
 (pss_one (ps_ret (pv 6)))))))), ?_⟩
    refine ⟨_, rfl, _, _, rfl, rfl, (by show (0 : Int) < 2; decide), rfl, _, rfl, ite2 (fun c => ?_) (fun c => ?_)⟩
    · have hu : (p % 2 == 0) = true := by
        have c := V.int.inj (of_decide_eq_true c)
        rw [beq_iff_eq]
        omega
      refine ⟨_, rfl, _, true, rfl, thing_int _, fun c => absurd ⟨_, rfl, by omega, by omega⟩ c, fun n1 e1 hn1 H1 f s1 ff ef => ?_⟩
      have e1 := V.int.inj e1
      obtain rfl : n1 = p := by omega
      refine ⟨f, _, rfl, SqL.of ef, _, rfl, _, rfl, SqL.of ef, .inl ⟨rfl, fun A nA => ?_⟩⟩
      have sA := same_new (o := .lst ((rowN n1).map V.int)) nA
      refine ⟨_, rfl, _, _, rfl, rfl, _, rfl, _, _, rfl, rfl, _, true, rfl, thing_int _, fun c => absurd ⟨_, rfl, by omega, by omega⟩ c, fun n2 e2 hn2 H2 f2 s2 ff2 ef2 => ?_⟩
      have e2 := V.int.inj e2
      obtain rfl : n2 = n - 1 - n1 := by omega
      refine ⟨f2, _, rfl, SqL.of ef2, _, rfl, _, rfl, SqL.of ef2, .inl ⟨rfl, fun B nB => ?_⟩⟩
      have sB := same_new (o := .lst ((rowN (n - 1 - n1)).map V.int)) nB
      have eA : (upd H2 B (.lst ((rowN (n - 1 - n1)).map V.int))) A = some (.lst ((sideN true n1).map V.int)) := by
        refine sB _ _ (s2 _ _ ?_)
        rw [upd_same]; rfl
      have eB : (upd H2 B (.lst ((rowN (n - 1 - n1)).map V.int))) B = some (.lst ((sideN true (n - 1 - n1)).map V.int)) := by
        rw [upd_same]; rfl
      have sAll := ((s1.trans sA).trans s2).trans sB
      generalize upd H2 B (.lst ((rowN (n - 1 - n1)).map V.int)) = H4 at *
      have lA := sideN_len true n1
      have lB := sideN_len true (n - 1 - n1)
      have bA := sideN_lt (u := true) (i := n1) (by omega)
      have bB := sideN_lt (u := true) (i := n - 1 - n1) (by omega)
      refine ⟨_, rfl, _, rfl, _, _, rfl, rfl, _, _, rfl, rfl, _, rfl, _, _, rfl, rfl, _, _, rfl, _, rfl, _, rfl, _, _, rfl, ?_⟩
      have elo : (if ((n1 + 1 : Nat) : Int) + ((b + 1 : Nat) : Int) - 1 - (n : Int) > 0 then ((n1 + 1 : Nat) : Int) + ((b + 1 : Nat) : Int) - 1 - (n : Int) else 0) = ((loN n n1 b : Nat) : Int) := by
        unfold loN
        split <;> omega
      have ehi : (if ((b + 1 : Nat) : Int) < ((n1 + 1 : Nat) : Int) then ((b + 1 : Nat) : Int) else ((n1 + 1 : Nat) : Int)) = ((min (n1 + 1) (b + 1) : Nat) : Int) := by
        split <;> omega
      rw [elo, ehi]
      refine ⟨_, _, rfl, ⟨by omega, by omega, by omega, by omega⟩, ?_⟩
      have hlo : loN n n1 b ≤ min (n1 + 1) (b + 1) := by
        unfold loN
        omega
      have ecnt : (((min (n1 + 1) (b + 1) : Nat) : Int) - ((loN n n1 b : Nat) : Int)).toNat = min (n1 + 1) (b + 1) - loN n n1 b := by omega
      rw [ecnt]
      refine for_range (lo := ((loN n n1 b : Nat) : Int)) (n := min (n1 + 1) (b + 1) - loN n n1 b) (fun i σ H' => ∃ x3 x7 x8, σ = [some (.int (n : Int)), some (.int ((n1 + 1 : Nat) : Int)), some (.int ((b + 1 : Nat) : Int)), x3, some (.ref A), some (.ref B), some (.int (sumTo (fun i => termN n n1 b (loN n n1 b + i)) i)), x7, x8] ∧ H' = H4) ⟨_, _, _, rfl, rfl⟩ ?_ ?_
      · rintro i σ H' hi ⟨x3, x7, x8, rfl, rfl⟩
        have hlon : n1 + b + 1 - n = loN n n1 b := rfl
        generalize loN n n1 b = lo at *
        have jA : lo + i < (sideN true n1).length := by omega
        have jB : b - (lo + i) < (sideN true (n - 1 - n1)).length := by omega
        have c1 := chF_lt (t := b) (k := lo + i) (by omega) (by omega)
        have c2 := chF_lt (t := n - 1 - b) (k := n1 - (lo + i)) (by omega) (by omega)
        have m1 := bA _ (memI jA)
        have m2 := bB _ (memI jB)
        refine ⟨_, rfl, _, _, rfl, rfl, _, rfl, (b : Int), lo + i, two_ints (by omega) (by omega), by omega, by omega, by omega, ?_⟩
        refine ⟨_, rfl, _, rfl, _, _, rfl, rfl, _, rfl, _, _, rfl, rfl, _, rfl, _, _, rfl, rfl, ((n - 1 - b : Nat) : Int), n1 - (lo + i), two_ints (by omega) (by omega), by omega, by omega, by omega, ?_⟩
        refine ⟨_, _, rfl, rfl, wide_mul c1 c2 (by decide) (by decide) (by decide), ?_⟩
        have w1 := wide_lt c1 c2
        refine ⟨_, rfl, _, rfl, _, rfl, _, rfl, A, _, _, _, rfl, rfl, SqL.of eA, at_of (j := lo + i) (by omega) (getI jA), _, _, rfl, rfl, wide_mul w1 m1 (by decide) (by decide) (by decide), ?_⟩
        refine ⟨_, rfl, _, rfl, _, _, rfl, rfl, _, rfl, _, _, rfl, rfl, B, _, _, _, rfl, rfl, SqL.of eB, at_of (j := b - (lo + i)) (by omega) (getI jB), _, _, rfl, rfl, wide_mul (wide_lt w1 m1) m2 (by decide) (by decide) (by decide), ?_⟩
        refine ⟨_, _, rfl, rfl, x3, some (.int ((lo : Int) + (i : Int))), some (.int (chF (b : Int) (lo + i) * chF ((n - 1 - b : Nat) : Int) (n1 - (lo + i)))), ?_, rfl⟩
        rw [sumTo_succ]
        unfold termN
        rw [hu]
        rfl
      · rintro σ H' ⟨x3, x7, x8, rfl, rfl⟩
        exact ⟨_, rfl, q _ sAll⟩
    · have hu : (p % 2 == 0) = false := by
        have c := of_decide_eq_false (Bool.eq_false_iff.mpr c)
        refine beq_eq_false_iff_ne.mpr fun z => c ?_
        exact congrArg V.int (by omega)
      refine ⟨_, rfl, _, rfl, _, true, rfl, thing_int _, fun c => absurd ⟨_, rfl, by omega, by omega⟩ c, fun n1 e1 hn1 H1 f s1 ff ef => ?_⟩
      have e1 := V.int.inj e1
      obtain rfl : n1 = p := by omega
      refine ⟨f, _, rfl, SqL.of ef, _, rfl, _, rfl, SqL.of ef, .inr ⟨rfl, fun A nA => ?_⟩⟩
      have sA := same_new (o := .lst (((rowN n1).map V.int).reverse)) nA
      refine ⟨_, rfl, _, _, rfl, rfl, _, rfl, _, _, rfl, rfl, _, true, rfl, thing_int _, fun c => absurd ⟨_, rfl, by omega, by omega⟩ c, fun n2 e2 hn2 H2 f2 s2 ff2 ef2 => ?_⟩
      have e2 := V.int.inj e2
      obtain rfl : n2 = n - 1 - n1 := by omega
      refine ⟨f2, _, rfl, SqL.of ef2, _, rfl, _, rfl, SqL.of ef2, .inr ⟨rfl, fun B nB => ?_⟩⟩
      have sB := same_new (o := .lst (((rowN (n - 1 - n1)).map V.int).reverse)) nB
      have eA : (upd H2 B (.lst (((rowN (n - 1 - n1)).map V.int).reverse))) A = some (.lst ((sideN false n1).map V.int)) := by
        refine sB _ _ (s2 _ _ ?_)
        rw [upd_same, ← List.map_reverse]; rfl
      have eB : (upd H2 B (.lst (((rowN (n - 1 - n1)).map V.int).reverse))) B = some (.lst ((sideN false (n - 1 - n1)).map V.int)) := by
        rw [upd_same, ← List.map_reverse]; rfl
      have sAll := ((s1.trans sA).trans s2).trans sB
      generalize upd H2 B (.lst (((rowN (n - 1 - n1)).map V.int).reverse)) = H4 at *
      have lA := sideN_len false n1
      have lB := sideN_len false (n - 1 - n1)
      have bA := sideN_lt (u := false) (i := n1) (by omega)
      have bB := sideN_lt (u := false) (i := n - 1 - n1) (by omega)
      refine ⟨_, rfl, _, rfl, _, _, rfl, rfl, _, _, rfl, rfl, _, rfl, _, _, rfl, rfl, _, _, rfl, _, rfl, _, rfl, _, _, rfl, ?_⟩
      have elo : (if ((n1 + 1 : Nat) : Int) + ((b + 1 : Nat) : Int) - 1 - (n : Int) > 0 then ((n1 + 1 : Nat) : Int) + ((b + 1 : Nat) : Int) - 1 - (n : Int) else 0) = ((loN n n1 b : Nat) : Int) := by
        unfold loN
        split <;> omega
      have ehi : (if ((b + 1 : Nat) : Int) < ((n1 + 1 : Nat) : Int) then ((b + 1 : Nat) : Int) else ((n1 + 1 : Nat) : Int)) = ((min (n1 + 1) (b + 1) : Nat) : Int) := by
        split <;> omega
      rw [elo, ehi]
      refine ⟨_, _, rfl, ⟨by omega, by omega, by omega, by omega⟩, ?_⟩
      have hlo : loN n n1 b ≤ min (n1 + 1) (b + 1) := by
        unfold loN
        omega
      have ecnt : (((min (n1 + 1) (b + 1) : Nat) : Int) - ((loN n n1 b : Nat) : Int)).toNat = min (n1 + 1) (b + 1) - loN n n1 b := by omega
      rw [ecnt]
      refine for_range (lo := ((loN n n1 b : Nat) : Int)) (n := min (n1 + 1) (b + 1) - loN n n1 b) (fun i σ H' => ∃ x3 x7 x8, σ = [some (.int (n : Int)), some (.int ((n1 + 1 : Nat) : Int)), some (.int ((b + 1 : Nat) : Int)), x3, some (.ref A), some (.ref B), some (.int (sumTo (fun i => termN n n1 b (loN n n1 b + i)) i)), x7, x8] ∧ H' = H4) ⟨_, _, _, rfl, rfl⟩ ?_ ?_
      · rintro i σ H' hi ⟨x3, x7, x8, rfl, rfl⟩
        have hlon : n1 + b + 1 - n = loN n n1 b := rfl
        generalize loN n n1 b = lo at *
        have jA : lo + i < (sideN false n1).length := by omega
        have jB : b - (lo + i) < (sideN false (n - 1 - n1)).length := by omega
        have c1 := chF_lt (t := b) (k := lo + i) (by omega) (by omega)
        have c2 := chF_lt (t := n - 1 - b) (k := n1 - (lo + i)) (by omega) (by omega)
        have m1 := bA _ (memI jA)
        have m2 := bB _ (memI jB)
        refine ⟨_, rfl, _, _, rfl, rfl, _, rfl, (b : Int), lo + i, two_ints (by omega) (by omega), by omega, by omega, by omega, ?_⟩
        refine ⟨_, rfl, _, rfl, _, _, rfl, rfl, _, rfl, _, _, rfl, rfl, _, rfl, _, _, rfl, rfl, ((n - 1 - b : Nat) : Int), n1 - (lo + i), two_ints (by omega) (by omega), by omega, by omega, by omega, ?_⟩
        refine ⟨_, _, rfl, rfl, wide_mul c1 c2 (by decide) (by decide) (by decide), ?_⟩
        have w1 := wide_lt c1 c2
        refine ⟨_, rfl, _, rfl, _, rfl, _, rfl, A, _, _, _, rfl, rfl, SqL.of eA, at_of (j := lo + i) (by omega) (getI jA), _, _, rfl, rfl, wide_mul w1 m1 (by decide) (by decide) (by decide), ?_⟩
        refine ⟨_, rfl, _, rfl, _, _, rfl, rfl, _, rfl, _, _, rfl, rfl, B, _, _, _, rfl, rfl, SqL.of eB, at_of (j := b - (lo + i)) (by omega) (getI jB), _, _, rfl, rfl, wide_mul (wide_lt w1 m1) m2 (by decide) (by decide) (by decide), ?_⟩
        refine ⟨_, _, rfl, rfl, x3, some (.int ((lo : Int) + (i : Int))), some (.int (chF (b : Int) (lo + i) * chF ((n - 1 - b : Nat) : Int) (n1 - (lo + i)))), ?_, rfl⟩
        rw [sumTo_succ]
        unfold termN
        rw [hu]
        rfl
      · rintro σ H' ⟨x3, x7, x8, rfl, rfl⟩
        exact ⟨_, rfl, q _ sAll⟩

def spFull (K : PySem.W.Frag) (C : Addr) : Sp := fun vs H Q E => ∃ x z, vs = [x] ∧ Thing K H x z ∧ (¬ NumOk x 1 40 → E (.ref C) none H) ∧
  ∀ n : Nat, x = .int (n : Int) → 1 ≤ n → n ≤ 40 → ∀ H' p, Same H H' → H p = none → H' p = some (.lst ((fullL n).map V.int)) → Q (.ref p) H'
theorem short_forty : ((40 : Int).natAbs.log2 < 1920 ∧ (Str.empty ++ ("the number is not from " : Str) ++ (toString (1 : Int) : Str) ++ (" to " : Str) ++ (toString (40 : Int) : Str)).length ≤ sizeLine) := by
  refine ⟨by decide +kernel, by decide +kernel⟩
theorem three_ints {a b c d e f : Int} (h1 : a = c) (h2 : b = d) (h3 : e = f) : [V.int a, V.int b, V.int e] = [V.int c, V.int d, V.int f] := by rw [h1, h2, h3]
theorem ok_full_by_left (T : Txt K mg) : DefOk P w K mg base (L2.CX P w) 6 "full_by_left" ["n"] (spFull K (He.ga K "NoNumber")) := by
  have D_need_number : DefOk P w K mg base (L2.CX P w) 2 "need_number" ["thing", "least", "most"] (spNeed K (He.ga K "NoNumber")) := ok_need_number T
  have D_ways_with : DefOk P w K mg base CX0 5 "ways_with" ["n", "place", "number"] spWays := ok_ways_with T
  refine def_of T.d_full_by_left T.g_full_by_left (fun _ _ _ _ _ _ us hl => match us, hl with | [_], _ => rfl) fun fd F => ?_
  refine F.ok sc_full_by_left (fun vs H Q E h => ?_) (fun cdv A outer s H vs Q E hr h => ?_)
  · obtain ⟨x, z, rfl, _⟩ := h; rfl
  · obtain ⟨x, z, rfl, hT, kN, kY⟩ := h
    refine ⟨_, (pss_cons (ps_expr (pe_callD (E := E) D_need_number hr (by rfl) (passOut (takes_of rfl rfl rfl rfl)) (pa_cons (pv 0) (pa_cons pe_int (pa_cons (pe_glob (v := .int 40) rfl T.c_MOST.choose_spec ⟨_, rfl⟩) pa_nil)))))
 (pss_one (ps_ret (pe_lc (own := [("place", 1)]) (g := gName 1) (tt := tYes) (by rfl) sc_full_by_left.nd (pi_range2 (by rfl) T.n_range (pa_cons pe_int (pa_cons (pe_op op_add (pv 0) pe_int) pa_nil))) (blkOk_by (own := [("place", 1)]) (N := N_full_by_left) (sc := defScope S_full_by_left) (by decide +kernel)) (fun _ _ _ _ _ => (pg_name (i := 1) sc_full_by_left.nd rfl (Or.inl rfl))) (fun _ _ _ _ _ => pts_nil) (fun _ _ _ _ _ => (pe_callD D_ways_with hr (by rfl) pass0 (pa_cons (pv 0) (pa_cons (pv 1) (pa_cons (pv 0) pa_nil))))))))), ?_⟩
    refine ⟨_, rfl, x, 1, 40, z, rfl, short_one, short_forty, hT, fun ok => ?_, kN⟩
    obtain ⟨i, rfl, h1, h2⟩ := ok
    obtain ⟨n, rfl⟩ : ∃ n : Nat, i = (n : Int) := ⟨i.toNat, by omega⟩
    refine ⟨_, rfl, _, _, rfl, rfl, 1, (n : Int) + 1, rfl, ⟨by omega, by omega, by omega, by omega⟩, fun D nD => ?_⟩
    have en : ((n : Int) + 1 - 1).toNat = n := by omega
    rw [en]
    refine lc_range (lo := 1) (n := n) (fun i H3 => Same H H3 ∧ H3 D = some (.lst (((fullL n).take i).map V.int))) ⟨same_new nD, upd_same⟩ ?_ ?_
    · rintro i H3 hi ⟨s3, eD⟩
      refine ⟨rfl, _, rfl, _, rfl, _, rfl, n, i, n - 1, three_ints rfl (by omega) (by omega), by omega, by omega, by omega, fun H4 s4 => ?_⟩
      refine ⟨_, s4 _ _ eD, small_n (by rw [List.length_map, List.length_take, fullL_len]; omega), same_set (s3.trans s4) nD, ?_⟩
      have gi : (fullL n)[i]? = some (waysN n i (n - 1)) := by
        unfold fullL
        rw [List.getElem?_map, List.getElem?_range hi]; rfl
      rw [upd_same, List.take_add_one, gi, List.map_append]; rfl
    · rintro H3 ⟨s3, eD⟩
      rw [List.take_of_length_le (by rw [fullL_len]; exact Nat.le_refl _)] at eD
      exact kY n rfl (by omega) (by omega) H3 D s3 nD eD

theorem cut_nat {xs : List V} {k : Nat} (h : k ≤ xs.length) : cutV xs (some (k : Int)) none = xs.drop k := by
  unfold cutV
  rw [HT.sIx_none, HT.sIx_nat, Nat.min_eq_left h, List.take_of_length_le (by rw [List.length_drop]; exact Nat.le_refl _)]
def spCounts : Sp := fun vs H Q _ => ∃ n : Nat, vs = [.int (n : Int)] ∧ n ≤ 40 ∧ ∀ H' p, Same H H' → H p = none → H' p = some (.lst ((foundN n).map V.int)) → Q (.ref p) H'
theorem ok_law_counts (T : Txt K mg) : DefOk P w K mg base CX0 1 "_law_counts" ["_law_n"] spCounts := by
  refine def_of T.d_law_counts T.g_law_counts (fun _ _ _ _ _ _ us hl => match us, hl with | [_], _ => rfl) fun fd F => ?_
  refine F.ok sc_law_counts (fun vs H Q E h => ?_) (fun cdv A outer s H vs Q E hr h => ?_)
  · obtain ⟨n, rfl, _⟩ := h; rfl
  · obtain ⟨n, rfl, hn, kY⟩ := h
    refine ⟨_, PSs.nox (pss_cons (ps_set (i := 1) sc_law_counts.nd rfl (Or.inl rfl) (pe_lst (pa_cons pe_int pa_nil)))
 (pss_cons (ps_set (i := 2) sc_law_counts.nd rfl (Or.inr rfl) (pe_lst (pa_cons pe_int pa_nil)))
 (pss_cons (ps_while PassesOwn.never (pt_cmpR op_le (pe_callB (lenK K) (by rfl) T.n_len boot_len (pa_cons (pv 1) pa_nil)) (pv 0) (nomark _)) (pss_cons (ps_expr (pe_bm PySem.F.plainAttrs_list PySem.F.slot_list_append PySem.F.type_list_append mt_append (pv 1) (pa_cons (pe_callB (sumK K rfl) (by rfl) T.n_sum (by decide +kernel) (pa_cons (pv 2) pa_nil)) pa_nil)))
 (pss_one (ps_set (i := 2) sc_law_counts.nd rfl (Or.inr rfl) (revLK K (pe_lc (own := [("_law_rank", 3)]) (g := gName 3) (tt := tYes) (by rfl) sc_law_counts.nd (pi_range1 (by rfl) T.n_range (pa_cons (pe_op op_add (pe_callB (lenK K) (by rfl) T.n_len boot_len (pa_cons (pv 2) pa_nil)) pe_int) pa_nil)) (blkOk_by (own := [("_law_rank", 3)]) (N := N_law_counts) (sc := defScope S_law_counts) (by decide +kernel)) (fun _ _ _ _ _ => (pg_name (i := 3) sc_law_counts.nd rfl (Or.inl rfl))) (fun _ _ _ _ _ => pts_nil) (fun _ _ _ _ _ => (pe_callB (sumK K rfl) (by rfl) T.n_sum (by decide +kernel) (pa_cons (pe_slice (slLK K) (pv 2) (po_some (pv 3)) po_none) pa_nil)))))))))
 (pss_one (ps_ret (pv 1)))))), ?_⟩
    refine ⟨sz 1, fun f nf => ?_⟩
    refine ⟨sz 1, fun g ng => ?_⟩
    have s1 := same_new (o := .lst [.int 1]) nf
    have fg : f ≠ g := ne_of_none upd_same ng
    have hf : H f = none := nf
    refine while_by (fun σ H' => ∃ k g x3, σ = [some (.int (n : Int)), some (.ref f), some (.ref g), x3] ∧ k ≤ n ∧ Same H H' ∧ f ≠ g ∧ H' f = some (.lst ((foundN k).map V.int)) ∧ H' g = some (.lst ((someN k).map V.int)))
      (fun σ H' => match H' f with | some (.lst xs) => n + 1 - xs.length | _ => 0) ⟨0, g, none, rfl, Nat.zero_le _, s1.trans (same_new ng), fg, by rw [upd_ne fg]; exact upd_same, upd_same⟩ ?_ ?_
    · rintro σ H' ⟨k, g, x3, rfl, hk, sm, fg, ef, eg⟩
      refine ⟨_, rfl, f, _, rfl, .inl (SqL.of ef), _, rfl, _, _, rfl, rfl, _, rfl, ite2 (fun c => ?_) (fun c => ?_)⟩
      · have c := of_decide_eq_true c
        rw [List.length_map, foundN_len] at c
        have hkn : k < n := by omega
        have lg := someN_len k
        refine ⟨_, rfl, .inl ⟨rfl, _, SqL.of ef⟩, _, rfl, g, _, rfl, SqL.of eg, f, _, _, rfl, rfl, ef, small_n (by rw [List.length_map, foundN_len]; omega), ?_⟩
        have ef5 : (upd H' f (.lst ((foundN k).map V.int ++ [.int (someN k).sum]))) f = some (.lst ((foundN (k + 1)).map V.int)) := by
          rw [upd_same, foundN_succ, List.map_append]; rfl
        have eg5 : (upd H' f (.lst ((foundN k).map V.int ++ [.int (someN k).sum]))) g = some (.lst ((someN k).map V.int)) := by
          rw [upd_ne fg.symm]; exact eg
        have s5 : Same H (upd H' f (.lst ((foundN k).map V.int ++ [.int (someN k).sum]))) := same_set sm hf
        generalize upd H' f (.lst ((foundN k).map V.int ++ [.int (someN k).sum])) = H5 at *
        refine ⟨_, rfl, g, _, rfl, .inl (SqL.of eg5), _, _, rfl, rfl, _, rfl, by omega, by rw [List.length_map, lg]; omega, fun D nD => ?_⟩
        have en : (((((someN k).map V.int).length : Nat) : Int) + 1).toNat = (someN k).length + 1 := by rw [List.length_map]; omega
        rw [en]
        refine lc_range (lo := 0) (n := (someN k).length + 1) (fun j H6 => Same H5 H6 ∧ H6 D = some (.lst (((List.range j).map fun r => ((someN k).drop r).sum).map V.int))) ⟨same_new nD, upd_same⟩ ?_ ?_
        · rintro j H6 hj ⟨s6, eD⟩
          have eg6 := s6 _ _ eg5
          refine ⟨rfl, _, rfl, _, rfl, _, rfl, g, _, rfl, SqL.of eg6, fun c nc => ?_⟩
          have cut : cutV ((someN k).map V.int) (some (0 + (j : Int))) none = ((someN k).drop j).map V.int := by
            rw [Int.zero_add, cut_nat (by rw [List.length_map]; omega), List.map_drop]
          rw [cut]
          have sc := same_new (o := .lst (((someN k).drop j).map V.int)) nc
          refine ⟨c, _, rfl, SqL.of upd_same, _, sc _ _ eD, small_n (by rw [List.length_map, List.length_map, List.length_range]; omega), same_set (s6.trans sc) nD, ?_⟩
          rw [upd_same, List.range_succ, List.map_append, List.map_append]; rfl
        rintro H6 ⟨s6, eD⟩
        refine ⟨D, _, rfl, SqL.of eD, fun p np => ?_⟩
        have sp := same_new (o := .lst (((((List.range ((someN k).length + 1)).map fun r => ((someN k).drop r).sum).map V.int)).reverse)) np
        have ef6 := sp _ _ (s6 _ _ ef5)
        refine ⟨⟨k + 1, p, _, rfl, by omega, s5.trans (s6.trans sp), (fun e => by have z := s6 _ _ ef5; rw [e, np] at z; cases z), ef6, ?_⟩, ?_⟩
        · rw [upd_same, ← List.map_reverse]; rfl
        · show (match (upd H6 p _) f with | some (.lst xs) => n + 1 - xs.length | _ => 0) < (match H' f with | some (.lst xs) => n + 1 - xs.length | _ => 0)
          rw [ef6, ef]
          show n + 1 - ((foundN (k + 1)).map V.int).length < n + 1 - ((foundN k).map V.int).length
          rw [List.length_map, List.length_map, foundN_len, foundN_len]
          omega
      · have c := of_decide_eq_false (Bool.eq_false_iff.mpr c)
        rw [List.length_map, foundN_len] at c
        obtain rfl : k = n := by omega
        exact ⟨_, rfl, kY H' f sm hf ef⟩
    · intro σ H' Q1 Q2 hq hc
      obtain ⟨v, e1, a, ys, e2, e3, v2, e4, i, j, e5, e6, b, e7, e8⟩ := hc
      exact ⟨v, e1, a, ys, e2, e3, v2, e4, i, j, e5, e6, b, e7, hq _ _ e8⟩

def spAllUps : Sp := fun vs H Q _ => ∃ n : Nat, vs = [.int (n : Int)] ∧ 1 ≤ n ∧ n ≤ 8 ∧ ∀ H' p ts, Same H H' → H' p = some (.lst (ts.map V.ref)) → TupsZ H' ts (upsN n n) → Q (.ref p) H'
theorem small_len {n : Nat} (h : n ≤ 100000) : n < sizeLine := Nat.lt_of_le_of_lt h (by decide)
theorem take_more {α : Type} {l : List α} {j : Nat} {x : α} (h : l[j]? = some x) : l.take (j + 1) = l.take j ++ [x] := by
  rw [List.take_add_one, h]; rfl
theorem in_ints (o : Int) : ∀ l : List Int, inV (.int o) (l.map V.int) = l.contains o
  | [] => rfl
  | x :: l => by
    show ((x == o) || inV (.int o) (l.map V.int)) = _
    rw [in_ints o l, List.contains_cons, Bool.beq_comm]
theorem last_at {l : List Int} (h : 0 < l.length) : atI (l.map V.int) (-1) = some (.int (l.getLastD 0)) := by
  have e1 : l ≠ [] := fun z => by rw [z] at h; exact absurd h (Nat.lt_irrefl _)
  have e2 := List.dropLast_concat_getLast e1
  have e3 : l.getLastD 0 = l.getLast e1 := by
    conv => lhs; rw [← e2]
    exact List.getLastD_concat ..
  rw [e3]
  exact last_ints e2.symm
theorem oneUp_mono (k : Nat) (s : List Int) (m : Nat) : ∀ d, (oneUp k s m).length ≤ (oneUp k s (m + d)).length
  | 0 => Nat.le_refl _
  | d + 1 => by
    show _ ≤ (oneUp k s (m + d + 1)).length
    rw [oneUp_succ, List.length_append]
    exact Nat.le_trans (oneUp_mono k s m d) (Nat.le_add_right _ _)
theorem ups_part {n i j m : Nat} {l : List Int} (hl : (upsN n i)[j]? = some l) (hm : m ≤ n) : (stepU n i ((upsN n i).take j) ++ oneUp i l m).length ≤ (upsN n (i + 1)).length := by
  have z : upsN n (i + 1) = stepU n i ((upsN n i).take (j + 1)) ++ stepU n i ((upsN n i).drop (j + 1)) := by
    show stepU n i (upsN n i) = _
    conv => lhs; rw [← List.take_append_drop (j + 1) (upsN n i)]
    unfold stepU
    rw [List.flatMap_append]
  rw [z, stepU_take hl, List.length_append, List.length_append, List.length_append]
  have y := oneUp_mono i l m (n - m)
  rw [show m + (n - m) = n by omega] at y
  omega
theorem fits_eq {k : Nat} {s : List Int} {o : Int} (h0 : k ≠ 0) : fitsN k s o = (!s.contains o && (decide (s.getLastD 0 < o) == (k % 2 == 1))) := by
  unfold fitsN
  rw [show (k == 0) = false from beq_eq_false_iff_ne.mpr h0, Bool.false_or]
theorem odd_eq (k : Nat) : decide (V.int ((k : Int) % 2) = V.int 1) = (k % 2 == 1) := by
  by_cases h : k % 2 = 1
  · rw [show (k % 2 == 1) = true from beq_iff_eq.mpr h]
    exact decide_eq_true (congrArg V.int (by omega))
  · rw [show (k % 2 == 1) = false from beq_eq_false_iff_ne.mpr h]
    exact decide_eq_false fun z => h (by have := V.int.inj z; omega)
theorem fits_of {k : Nat} {s : List Int} {o : Int} (h1 : s.contains o = false) (h0 : k ≠ 0) (h : V.bl (decide (s.getLastD 0 < o)) = V.bl (decide (V.int ((k : Int) % 2) = V.int 1))) : fitsN k s o = true := by
  rw [fits_eq h0, h1, V.bl.inj h, odd_eq]
  simp
theorem fits_not {k : Nat} {s : List Int} {o : Int} (h0 : k ≠ 0) (h : ¬ V.bl (decide (s.getLastD 0 < o)) = V.bl (decide (V.int ((k : Int) % 2) = V.int 1))) : ¬ fitsN k s o = true := by
  intro z
  rw [fits_eq h0, Bool.and_eq_true] at z
  exact h (congrArg V.bl (by rw [odd_eq]; exact eq_of_beq z.2))
theorem flat_ints : ∀ l : List Int, (l.map V.int).all flatV = true
  | [] => rfl
  | _ :: l => flat_ints l
theorem ok_law_all_updowns (T : Txt K mg) : DefOk P w K mg base CX0 1 "_law_all_updowns" ["_law_n"] spAllUps := by
  refine def_of T.d_law_all_updowns T.g_law_all_updowns (fun _ _ _ _ _ _ us hl => match us, hl with | [_], _ => rfl) fun fd F => ?_
  refine F.ok sc_law_all_updowns (fun vs H Q E h => ?_) (fun cdv A outer s H vs Q E hr h => ?_)
  · obtain ⟨n, rfl, _⟩ := h; rfl
  · obtain ⟨n, rfl, h1, h2, kY⟩ := h
    refine ⟨_, PSs.nox (pss_cons (ps_set (i := 1) sc_law_all_updowns.nd rfl (Or.inl rfl) (pe_lst (pa_cons (pe_tupZ pa_nil) pa_nil)))
 (pss_cons (ps_for PassesOwn.never rfl (pi_range1 (by rfl) T.n_range (pa_cons (pv 0) pa_nil)) (pg_name (i := 2) sc_law_all_updowns.nd rfl (Or.inl rfl)) (pss_cons (ps_set (i := 3) sc_law_all_updowns.nd rfl (Or.inl rfl) (pe_lst pa_nil))
 (pss_cons (ps_for PassesOwn.never rfl (pi_list (pv 1)) (pg_name (i := 4) sc_law_all_updowns.nd rfl (Or.inl rfl)) (pss_one (ps_for PassesOwn.never rfl (pi_range2 (by rfl) T.n_range (pa_cons pe_int (pa_cons (pe_op op_add (pv 0) pe_int) pa_nil))) (pg_name (i := 5) sc_law_all_updowns.nd rfl (Or.inl rfl)) (pss_one (ps_if (PW.pt (pw_and (pt_cmpR (notInK K) (pv 5) (pv 4) rfl) (pw_and1 (PW.pt (pw_or (pt_cmpR op_eq (pv 2) pe_int (nomark _)) (pw_or1 (pt_cmpR op_eq (pe_cmpR op_lt (pe_ix (ixTK K) (pv 4) (pe_un un_neg pe_int) (fun _ _ => rfl)) (pv 5) (nomark _)) (pe_cmpR op_eq (pe_op op_mod (pv 2) pe_int) pe_int (nomark _)) (nomark _)))))))) (pss_one (ps_expr (pe_bm PySem.F.plainAttrs_list PySem.F.slot_list_append PySem.F.type_list_append mt_append (pv 3) (pa_cons (pe_op (catZK K) (pv 4) (pe_tupZ (pa_cons (pv 5) pa_nil))) pa_nil)))) pss_nil)))))
 (pss_one (ps_set (i := 1) sc_law_all_updowns.nd rfl (Or.inl rfl) (pv 3))))))
 (pss_one (ps_ret (pv 1))))), ?_⟩
    refine ⟨sz 0, fun t ob hd nt => ?_⟩
    refine ⟨sz 1, fun f nf => ?_⟩
    have s1 := same_new (o := .frz ob (.tup [])) nt
    have s2 := s1.trans (same_new (o := .lst [.ref t]) nf)
    have ft : t ≠ f := ne_of_none upd_same nf
    refine ⟨_, rfl, (n : Int), rfl, by omega, by omega, ?_⟩
    have en : ((n : Int)).toNat = n := by omega
    rw [en]
    refine for_range (lo := 0) (n := n) (fun i σ H' => ∃ f ts x2 x3 x4 x5, σ = [some (.int (n : Int)), some (.ref f), x2, x3, x4, x5] ∧ Same H H' ∧ H' f = some (.lst (ts.map V.ref)) ∧ TupsZ H' ts (upsN n i))
      ⟨f, [t], none, none, none, none, rfl, s2, upd_same, TupsZ.one (l := []) (Zt.same (Zt.new hd rfl) (same_new nf))⟩ ?_ ?_
    · rintro i σ H' hi ⟨f, ts, x2, x3, x4, x5, rfl, sm, ef, tf⟩
      rw [Int.zero_add]
      refine ⟨sz 0, fun g ng => ?_⟩
      have sg := same_new (o := .lst []) ng
      have fg : f ≠ g := ne_of_none ef ng
      refine ⟨_, rfl, f, rfl, ⟨_, SqL.of (sg _ _ ef)⟩, ?_⟩
      refine for_list (K := K) (xs := ts.map V.ref) (fun j σ H3 => ∃ gs y4 y5, σ = [some (.int (n : Int)), some (.ref f), some (.int (i : Int)), some (.ref g), y4, y5] ∧ Same H' H3 ∧ H3 g = some (.lst (gs.map V.ref)) ∧ TupsZ H3 gs (stepU n i ((upsN n i).take j)))
        ⟨[], x4, x5, rfl, sg, upd_same, TupsZ.nil _⟩ (fun j σ H3 _ ⟨_, _, _, _, s3, _⟩ => SqL.of (s3 _ _ ef)) ?_ ?_
      · rintro j x σ H3 hj ⟨gs, y4, y5, rfl, s3, eg, tg⟩
        obtain ⟨t, htj, rfl⟩ := get_ref hj
        obtain ⟨l, hl, et⟩ := tf.get htj
        have ll := upsN_len n i l (List.mem_of_getElem? hl)
        refine ⟨_, rfl, _, _, rfl, rfl, 1, (n : Int) + 1, rfl, ⟨by omega, by omega, by omega, by omega⟩, ?_⟩
        have en2 : ((n : Int) + 1 - 1).toNat = n := by omega
        rw [en2]
        refine for_range (lo := 1) (n := n) (fun m σ H5 => ∃ gs y5, σ = [some (.int (n : Int)), some (.ref f), some (.int (i : Int)), some (.ref g), some (.ref t), y5] ∧ Same H' H5 ∧ H5 g = some (.lst (gs.map V.ref)) ∧ TupsZ H5 gs (stepU n i ((upsN n i).take j) ++ oneUp i l m))
          ⟨gs, y5, rfl, s3, eg, by unfold oneUp; simpa using tg⟩ ?_ ?_
        · rintro m σ H5 hm ⟨gs, y5, rfl, s5, eg, tg⟩
          have et5 := et.same s5
          refine ⟨_, rfl, _, rfl, t, _, rfl, .inr et5.sq, rfl, flat_ints _, ?_⟩
          rw [in_ints]
          refine ⟨_, rfl, ite2 (fun c => ?_) (fun c => ?_)⟩
          · have c1 : l.contains (1 + (m : Int)) = false := by simpa using c
            refine ⟨_, rfl, rfl, _, rfl, ite2 (fun c2 => ?_) (fun c2 => ?_)⟩
            · have c3 : i = 0 := by
                have z := V.int.inj (of_decide_eq_true c2)
                omega
              refine iteT ?_
              refine ⟨_, rfl, .inl ⟨rfl, _, SqL.of eg⟩, _, rfl, _, rfl, sz 1, fun q7 ob7 d7 n7 => ?_⟩
              have s7 := same_new (o := .frz ob7 (.tup [.int (1 + (m : Int))])) n7
              refine catz_by (et5.same s7) (m := [1 + (m : Int)]) (Zt.new d7 rfl) (Nat.le_of_lt (small_len (by rw [ll]; show i + 1 ≤ 100000; omega))) fun H8 p8 s8 e8 => ?_
              have sA := s7.trans s8
              have eg8 := sA _ _ eg
              refine ⟨g, _, _, rfl, rfl, eg8, small_len (by rw [List.length_map, tg.len]; exact Nat.le_trans (ups_part hl (Nat.le_of_lt hm)) (Nat.le_of_lt (ups_few (by omega) (by omega)))), gs ++ [p8], _, rfl, same_set (s5.trans sA) ng, by rw [upd_same, List.map_append]; rfl, ?_⟩
              rw [oneUp_succ, if_pos (by unfold fitsN; rw [c1, c3]; rfl), ← List.append_assoc]
              exact ((tg.same sA).add (TupsZ.one e8)).set eg8
            · have c3 : i ≠ 0 := fun z => of_decide_eq_false (Bool.eq_false_iff.mpr c2) (congrArg V.int (by omega))
              refine ⟨_, rfl, _, rfl, t, _, _, _, rfl, rfl, et5.sq, last_at (by omega), _, rfl, _, _, rfl, rfl, _, rfl, _, _, rfl, rfl, (by show (0 : Int) < 2; decide), rfl, rfl, _, rfl, ite2 (fun c4 => ?_) (fun c4 => ?_)⟩
              · have c5 := of_decide_eq_true c4
                refine ⟨_, rfl, .inl ⟨rfl, _, SqL.of eg⟩, _, rfl, _, rfl, sz 1, fun q7 ob7 d7 n7 => ?_⟩
                have s7 := same_new (o := .frz ob7 (.tup [.int (1 + (m : Int))])) n7
                refine catz_by (et5.same s7) (m := [1 + (m : Int)]) (Zt.new d7 rfl) (Nat.le_of_lt (small_len (by rw [ll]; show i + 1 ≤ 100000; omega))) fun H8 p8 s8 e8 => ?_
                have sA := s7.trans s8
                have eg8 := sA _ _ eg
                refine ⟨g, _, _, rfl, rfl, eg8, small_len (by rw [List.length_map, tg.len]; exact Nat.le_trans (ups_part hl (Nat.le_of_lt hm)) (Nat.le_of_lt (ups_few (by omega) (by omega)))), gs ++ [p8], _, rfl, same_set (s5.trans sA) ng, by rw [upd_same, List.map_append]; rfl, ?_⟩
                rw [oneUp_succ, if_pos (fits_of c1 c3 c5), ← List.append_assoc]
                exact ((tg.same sA).add (TupsZ.one e8)).set eg8
              · have c5 := of_decide_eq_false (Bool.eq_false_iff.mpr c4)
                refine ⟨gs, _, rfl, s5, eg, ?_⟩
                rw [oneUp_succ, if_neg (fits_not c3 c5), List.append_nil]
                exact tg
          · have c1 : l.contains (1 + (m : Int)) = true := by simpa using c
            refine iteF ?_
            refine ⟨gs, _, rfl, s5, eg, ?_⟩
            rw [oneUp_succ, if_neg (by unfold fitsN; rw [c1]; intro z; cases z), List.append_nil]
            exact tg
        · rintro σ H5 ⟨gs, y5, rfl, s5, eg, tg⟩
          refine ⟨gs, _, y5, rfl, s5, eg, ?_⟩
          rw [stepU_take hl]
          exact tg
      · rintro σ H3 ⟨gs, y4, y5, rfl, s3, eg, tg⟩
        rw [List.length_map, tf.len, List.take_length] at tg
        exact ⟨_, rfl, g, gs, _, _, _, _, rfl, sm.trans s3, eg, tg⟩
    · rintro σ H' ⟨f, ts, x2, x3, x4, x5, rfl, sm, ef, tf⟩
      exact ⟨_, rfl, kY H' f ts sm ef tf⟩

def spChosen : Sp := fun vs H Q _ => ∃ n : Nat, vs = [.int (n : Int)] ∧ n ≤ 40 ∧ ∀ H' p, Same H H' → H p = none → H' p = some (.lst ((chosenN n).map V.int)) → Q (.ref p) H'
theorem ok_law_chosen (T : Txt K mg) : DefOk P w K mg base CX0 1 "_law_chosen" ["_law_n"] spChosen := by
  refine def_of T.d_law_chosen T.g_law_chosen (fun _ _ _ _ _ _ us hl => match us, hl with | [_], _ => rfl) fun fd F => ?_
  refine F.ok sc_law_chosen (fun vs H Q E h => ?_) (fun cdv A outer s H vs Q E hr h => ?_)
  · obtain ⟨n, rfl, _⟩ := h; rfl
  · obtain ⟨n, rfl, hn, kY⟩ := h
    refine ⟨_, PSs.nox (pss_cons (ps_set (i := 1) sc_law_chosen.nd rfl (Or.inr rfl) (pe_lst (pa_cons pe_int pa_nil)))
 (pss_cons (ps_for PassesOwn.never rfl (pi_range1 (by rfl) T.n_range (pa_cons (pv 0) pa_nil)) (pg_name (i := 2) sc_law_chosen.nd rfl (Or.inl rfl)) (pss_one (ps_set (i := 1) sc_law_chosen.nd rfl (Or.inr rfl) (pe_op op_cat (pe_op op_cat (pe_lst (pa_cons pe_int pa_nil)) (pe_lc (own := [("_law_k", 3)]) (g := gName 3) (tt := tYes) (by rfl) sc_law_chosen.nd (pi_range1 (by rfl) T.n_range (pa_cons (pe_op op_sub (pe_callB (lenK K) (by rfl) T.n_len boot_len (pa_cons (pv 1) pa_nil)) pe_int) pa_nil)) (blkOk_by (own := [("_law_k", 3)]) (N := N_law_chosen) (sc := defScope S_law_chosen) (by decide +kernel)) (fun _ _ _ _ _ => (pg_name (i := 3) sc_law_chosen.nd rfl (Or.inl rfl))) (fun _ _ _ _ _ => pts_nil) (fun _ _ _ _ _ => (pe_op op_add (pe_ix (ixLK K) (pv 1) (pv 3) (fun _ _ => rfl)) (pe_ix (ixLK K) (pv 1) (pe_op op_add (pv 3) pe_int) (fun _ _ => rfl)))))) (pe_lst (pa_cons pe_int pa_nil))))))
 (pss_one (ps_ret (pv 1))))), ?_⟩
    refine ⟨sz 1, fun f nf => ?_⟩
    refine ⟨_, rfl, (n : Int), rfl, by omega, by omega, ?_⟩
    have en : ((n : Int)).toNat = n := by omega
    rw [en]
    refine for_range (lo := 0) (n := n) (fun i σ H' => ∃ f x2 x3, σ = [some (.int (n : Int)), some (.ref f), x2, x3] ∧ Same H H' ∧ H f = none ∧ H' f = some (.lst ((chosenN i).map V.int)))
      ⟨f, none, none, rfl, same_new nf, nf, upd_same⟩ ?_ ?_
    · rintro i σ H' hi ⟨f, x2, x3, rfl, sm, nf, ef⟩
      have lf := chosenN_len i
      refine ⟨sz 1, fun u nu => ?_⟩
      have su := same_new (o := .lst [.int 1]) nu
      refine ⟨_, rfl, f, _, rfl, .inl (SqL.of (su _ _ ef)), _, _, rfl, rfl, _, rfl, by rw [List.length_map, lf]; omega, by rw [List.length_map, lf]; omega, fun D nD => ?_⟩
      have en2 : (((((chosenN i).map V.int).length : Nat) : Int) - 1).toNat = i := by rw [List.length_map, lf]; omega
      rw [en2]
      refine lc_range (lo := 0) (n := i) (fun j H5 => Same (upd H' u (.lst [.int 1])) H5 ∧ H5 D = some (.lst (((List.range j).map fun j => (chosenN i).getD j 0 + (chosenN i).getD (j + 1) 0).map V.int))) ⟨same_new nD, upd_same⟩ ?_ ?_
      · rintro j H5 hj ⟨s5, eD⟩
        have ef5 := s5 _ _ (su _ _ ef)
        refine ⟨rfl, _, rfl, _, rfl, f, _, _, _, rfl, rfl, SqL.of ef5, at_of (j := j) (by omega) (getI (by omega)), _, rfl, _, rfl, _, _, rfl, rfl, f, _, _, _, rfl, rfl, SqL.of ef5, at_of (j := j + 1) (by omega) (getI (by omega)), _, _, rfl, rfl, _, eD, small_n (by rw [List.length_map, List.length_map, List.length_range]; omega), same_set s5 nD, ?_⟩
        rw [upd_same, List.range_succ, List.map_append, List.map_append]; rfl
      rintro H5 ⟨s5, eD⟩
      have eu := s5 _ _ (upd_same (H := H') (a := u) (o := .lst [.int 1]))
      refine ⟨u, D, _, _, rfl, rfl, eu, eD, ?_, fun u2 nu2 => ?_⟩
      · rw [List.length_map, List.length_map, List.length_range]; exact sz' (show 1 + i ≤ 1000 by omega)
      refine ⟨sz 1, fun u3 nu3 => ?_⟩
      have k2 := same_new (o := .lst ([.int 1] ++ ((List.range i).map fun j => (chosenN i).getD j 0 + (chosenN i).getD (j + 1) 0).map V.int)) nu2
      have k3 := same_new (o := .lst [.int 1]) nu3
      refine ⟨u2, u3, _, _, rfl, rfl, k3 _ _ upd_same, upd_same, ?_, fun u4 nu4 => ?_⟩
      · rw [List.length_append, List.length_map, List.length_map, List.length_range]; exact sz' (show 1 + i + 1 ≤ 1000 by omega)
      have k4 := same_new (o := .lst ([.int 1] ++ ((List.range i).map fun j => (chosenN i).getD j 0 + (chosenN i).getD (j + 1) 0).map V.int ++ [.int 1])) nu4
      have sA := (((su.trans s5).trans k2).trans k3)
      refine ⟨u4, _, _, rfl, (sm.trans sA).trans k4, (sm.trans sA).free nu4, ?_⟩
      rw [upd_same]
      show _ = some (HO.lst ((nextCh (chosenN i)).map V.int))
      unfold nextCh
      rw [lf, List.map_append, List.map_append]; rfl
    · rintro σ H' ⟨f, x2, x3, rfl, sm, nf, ef⟩
      exact ⟨_, rfl, kY H' f sm nf ef⟩

theorem cntK {X : Cx} (K : PySem.W.Frag) (h : X.K = K := by rfl) : MtR X "list.count" (rCountF K) := by subst h; exact mt_countF
def spByLeft : Sp := fun vs H Q _ => ∃ n : Nat, vs = [.int (n : Int)] ∧ 1 ≤ n ∧ n ≤ 40 ∧ ∀ H' p, Same H H' → H p = none → H' p = some (.lst ((dueN n).map V.int)) → Q (.ref p) H'
theorem count_ints (o : Int) : ∀ l : List Int, (l.map V.int).countP (fun z => eqV z (.int o)) = l.countP (fun z => z == o)
  | [] => rfl
  | x :: l => by
    rw [List.map_cons, List.countP_cons, List.countP_cons, count_ints o l]; rfl
theorem placesN_get {n j : Nat} {l : List Int} (h : (upsN n n)[j]? = some l) : (placesN n).take (j + 1) = (placesN n).take j ++ [((idxN (n : Int) l : Nat) : Int)] := by
  unfold placesN
  rw [List.take_add_one, List.getElem?_map, h]; rfl
theorem one_int {a b : Int} (h : a = b) : [V.int a] = [V.int b] := by rw [h]
theorem smallN_len (n : Nat) : (smallN n).length = n := by unfold smallN; rw [List.length_map, List.length_range]
theorem smallN_take {n j : Nat} (h : j < n) : (smallN n).take (j + 1) = (smallN n).take j ++ [(((placesN n).countP (fun z => z == (j : Int)) : Nat) : Int)] := by
  have g : (smallN n)[j]? = some (((placesN n).countP (fun z => z == (j : Int)) : Nat) : Int) := by
    unfold smallN
    rw [List.getElem?_map, List.getElem?_range h]; rfl
  rw [List.take_add_one, g]; rfl
theorem placesN_len (n : Nat) : (placesN n).length = (upsN n n).length := by unfold placesN; rw [List.length_map]
theorem ok_law_by_left (T : Txt K mg) : DefOk P w K mg base CX0 2 "_law_by_left" ["_law_n"] spByLeft := by
  have D_law_all_updowns : DefOk P w K mg base CX0 1 "_law_all_updowns" ["_law_n"] spAllUps := ok_law_all_updowns T
  have D_law_counts : DefOk P w K mg base CX0 1 "_law_counts" ["_law_n"] spCounts := ok_law_counts T
  have D_law_chosen : DefOk P w K mg base CX0 1 "_law_chosen" ["_law_n"] spChosen := ok_law_chosen T
  refine def_of T.d_law_by_left T.g_law_by_left (fun _ _ _ _ _ _ us hl => match us, hl with | [_], _ => rfl) fun fd F => ?_
  refine F.ok sc_law_by_left (fun vs H Q E h => ?_) (fun cdv A outer s H vs Q E hr h => ?_)
  · obtain ⟨n, rfl, _⟩ := h; rfl
  · obtain ⟨n, rfl, h1, hn, kY⟩ := h
    refine ⟨_, PSs.nox (pss_cons (ps_if (pt_cmpR op_lt (pv 0) pe_int (nomark _)) (pss_cons (ps_set (i := 1) sc_law_by_left.nd rfl (Or.inr rfl) (pe_lc (own := [("_law_some", 5)]) (g := gName 5) (tt := tYes) (by rfl) sc_law_by_left.nd (pi_list (pe_callD D_law_all_updowns hr (by rfl) pass0 (pa_cons (pv 0) pa_nil))) (blkOk_by (own := [("_law_some", 5)]) (N := N_law_by_left) (sc := defScope S_law_by_left) (by decide +kernel)) (fun _ _ _ _ _ => (pg_name (i := 5) sc_law_by_left.nd rfl (Or.inl rfl))) (fun _ _ _ _ _ => pts_nil) (fun _ _ _ _ _ => (pe_tix (pv 5) (pa_cons (pv 0) pa_nil)))))
 (pss_one (ps_ret (pe_lc (own := [("_law_place", 6)]) (g := gName 6) (tt := tYes) (by rfl) sc_law_by_left.nd (pi_range1 (by rfl) T.n_range (pa_cons (pv 0) pa_nil)) (blkOk_by (own := [("_law_place", 6)]) (N := N_law_by_left) (sc := defScope S_law_by_left) (by decide +kernel)) (fun _ _ _ _ _ => (pg_name (i := 6) sc_law_by_left.nd rfl (Or.inl rfl))) (fun _ _ _ _ _ => pts_nil) (fun _ _ _ _ _ => (pe_bmK K PySem.F.plainAttrs_list PySem.F.slot_list_count PySem.F.type_list_count (cntK K) (pv 1) (pa_cons (pv 6) pa_nil))))))) pss_nil)
 (pss_cons (ps_set (i := 2) sc_law_by_left.nd rfl (Or.inr rfl) (pe_callD D_law_counts hr (by rfl) pass0 (pa_cons (pv 0) pa_nil)))
 (pss_cons (ps_set (i := 3) sc_law_by_left.nd rfl (Or.inr rfl) (pe_callD D_law_chosen hr (by rfl) pass0 (pa_cons (pe_op op_sub (pv 0) pe_int) pa_nil)))
 (pss_one (ps_ret (pe_lc (own := [("_law_left", 4)]) (g := gName 4) (tt := tYes) (by rfl) sc_law_by_left.nd (pi_range1 (by rfl) T.n_range (pa_cons (pv 0) pa_nil)) (blkOk_by (own := [("_law_left", 4)]) (N := N_law_by_left) (sc := defScope S_law_by_left) (by decide +kernel)) (fun _ _ _ _ _ => (pg_name (i := 4) sc_law_by_left.nd rfl (Or.inl rfl))) (fun _ _ _ _ _ => pts_nil) (fun _ _ _ _ _ => (pe_ifExp (pt_cmpR op_eq (pe_op op_mod (pv 4) pe_int) pe_int (nomark _)) (pe_op op_mulW (pe_op op_mulW (pe_ix (ixLK K) (pv 3) (pv 4) (fun _ _ => rfl)) (pe_ix (ixLK K) (pv 2) (pv 4) (fun _ _ => rfl))) (pe_ix (ixLK K) (pv 2) (pe_op op_sub (pe_op op_sub (pv 0) pe_int) (pv 4)) (fun _ _ => rfl))) pe_int)))))))), ?_⟩
    refine ⟨_, rfl, _, _, rfl, rfl, _, rfl, ite2 (fun c => ?_) (fun c => ?_)⟩
    · have c := of_decide_eq_true c
      have n9 : n < 9 := by omega
      obtain ⟨few, has⟩ := ups_has h1 n9
      refine ⟨_, rfl, n, rfl, h1, by omega, fun H1 p ts s1 ep tp => ?_⟩
      refine ⟨p, rfl, ⟨_, SqL.of ep⟩, fun D nD => ?_⟩
      refine lc_list (K := K) (xs := ts.map V.ref) (fun j H3 => Same H1 H3 ∧ H3 D = some (.lst (((placesN n).take j).map V.int))) ⟨same_new nD, upd_same⟩ (fun j H3 _ ⟨s3, _⟩ => SqL.of (s3 _ _ ep)) ?_ ?_
      · rintro j x H3 hj ⟨s3, eD⟩
        obtain ⟨t, htj, rfl⟩ := get_ref hj
        obtain ⟨l, hl, et⟩ := tp.get htj
        have hm := List.mem_of_getElem? hl
        obtain ⟨i1, i2⟩ := idxN_at (has l hm)
        obtain ⟨ob, hd, ety⟩ := et.same s3
        refine ⟨rfl, _, rfl, t, ob, l, rfl, hd, ety, _, rfl, ety, _, _, rfl, i1, i2, _, eD, small_len (by rw [List.length_map, List.length_take, placesN_len]; omega), same_set s3 nD, ?_⟩
        rw [upd_same, placesN_get hl, List.map_append]; rfl
      rintro H3 ⟨s3, eD⟩
      rw [List.length_map, tp.len, ← placesN_len, List.take_length] at eD
      have fD : H D = none := s1.free nD
      refine ⟨_, rfl, (n : Int), rfl, by omega, by omega, fun D2 nD2 => ?_⟩
      have en : ((n : Int)).toNat = n := by omega
      rw [en]
      refine lc_range (lo := 0) (n := n) (fun j H5 => Same H3 H5 ∧ H5 D2 = some (.lst (((smallN n).take j).map V.int))) ⟨same_new nD2, upd_same⟩ ?_ ?_
      · rintro j H5 hj ⟨s5, eD2⟩
        have eD5 := s5 _ _ eD
        rw [Int.zero_add]
        refine ⟨rfl, _, rfl, .inl ⟨rfl, _, SqL.of eD5⟩, _, rfl, D, _, _, rfl, rfl, SqL.of eD5, rfl, flat_ints _, _, eD2, small_n (by rw [List.length_map, List.length_take, smallN_len]; omega), same_set s5 nD2, ?_⟩
        rw [upd_same, count_ints, smallN_take hj, List.map_append]; rfl
      · rintro H5 ⟨s5, eD2⟩
        rw [List.take_of_length_le (by rw [smallN_len]; exact Nat.le_refl _)] at eD2
        refine kY H5 D2 ((s1.trans s3).trans s5) ((s1.trans s3).free nD2) ?_
        rw [eD2]
        unfold dueN
        rw [if_pos n9]
    · have c := of_decide_eq_false (Bool.eq_false_iff.mpr c)
      have n9 : ¬ n < 9 := by omega
      refine ⟨_, rfl, n, rfl, hn, fun H1 p s1 np ep => ?_⟩
      refine ⟨_, rfl, _, _, rfl, rfl, n - 1, one_int (by omega), by omega, fun H2 q s2 nq eq => ?_⟩
      have ep2 := s2 _ _ ep
      obtain ⟨b1, _⟩ := foundN_lt hn
      obtain ⟨_, b2⟩ := foundN_lt (i := n - 1) (by omega)
      have l1 := foundN_len n
      have l2 := chosenN_len (n - 1)
      refine ⟨_, rfl, (n : Int), rfl, by omega, by omega, fun D nD => ?_⟩
      have en : ((n : Int)).toNat = n := by omega
      rw [en]
      refine lc_range (lo := 0) (n := n) (fun j H5 => Same H2 H5 ∧ H5 D = some (.lst (((List.range j).map (bigAt n)).map V.int))) ⟨same_new nD, upd_same⟩ ?_ ?_
      · rintro j H5 hj ⟨s5, eD⟩
        rw [Int.zero_add]
        have ep5 := s5 _ _ ep2
        have eq5 := s5 _ _ eq
        have j1 : j < (chosenN (n - 1)).length := by omega
        have j2 : j < (foundN n).length := by omega
        have j3 : n - 1 - j < (foundN n).length := by omega
        have m1 := b2 _ (memI j1)
        have m2 := b1 _ (memI j2)
        have m3 := b1 _ (memI j3)
        refine ⟨rfl, _, rfl, _, _, rfl, rfl, (by show (0 : Int) < 2; decide), rfl, _, rfl, ite2 (fun d => ?_) (fun d => ?_)⟩
        · have d1 : j % 2 = 1 := by
            have := V.int.inj (of_decide_eq_true d)
            omega
          refine ⟨_, rfl, _, rfl, q, _, _, _, rfl, rfl, SqL.of eq5, at_of (j := j) (by omega) (getI j1), _, rfl, _, rfl, p, _, _, _, rfl, rfl, SqL.of ep5, at_of (j := j) (by omega) (getI j2), _, _, rfl, rfl, wide_mul m1 m2 (by decide) (by decide) (by decide), ?_⟩
          refine ⟨_, rfl, _, rfl, _, _, rfl, rfl, _, rfl, _, _, rfl, rfl, p, _, _, _, rfl, rfl, SqL.of ep5, at_of (j := n - 1 - j) (by omega) (getI j3), _, _, rfl, rfl, wide_mul (wide_lt m1 m2) m3 (by decide) (by decide) (by decide), ?_⟩
          refine ⟨_, eD, small_n (by rw [List.length_map, List.length_map, List.length_range]; omega), same_set s5 nD, ?_⟩
          rw [upd_same, List.range_succ, List.map_append, List.map_append]
          show _ = some (HO.lst (_ ++ [V.int (bigAt n j)]))
          unfold bigAt
          rw [if_pos d1]
        · have d1 : ¬ j % 2 = 1 := fun z => of_decide_eq_false (Bool.eq_false_iff.mpr d) (congrArg V.int (by omega))
          refine ⟨_, eD, small_n (by rw [List.length_map, List.length_map, List.length_range]; omega), same_set s5 nD, ?_⟩
          rw [upd_same, List.range_succ, List.map_append, List.map_append]
          show _ = some (HO.lst (_ ++ [V.int (bigAt n j)]))
          unfold bigAt
          rw [if_neg d1]
      · rintro H5 ⟨s5, eD⟩
        have sA := (s1.trans s2).trans s5
        refine kY H5 D sA ((s1.trans s2).free nD) ?_
        rw [eD]
        unfold dueN bigN
        rw [if_neg n9]

theorem in_forty {zs : List Int} (h : ∀ z ∈ zs, 1 ≤ z ∧ z ≤ 40) {i : Nat} {x : V} (e : (([1, 2, 3] ++ zs).map V.int)[i]? = some x) : ∃ n : Nat, x = .int (n : Int) ∧ 1 ≤ n ∧ n ≤ 40 := by
  obtain ⟨z, hz, rfl⟩ := get_ints e
  have m := List.mem_of_getElem? hz
  have b : 1 ≤ z ∧ z ≤ 40 := by
    cases List.mem_append.mp m with
    | inl k =>
      simp only [List.mem_cons, List.not_mem_nil, or_false] at k
      omega
    | inr k => exact h z k
  exact ⟨z.toNat, congrArg V.int (by omega), by omega, by omega⟩
theorem cut_eight (ns : List Int) : cutV (ns.map V.int) none (some 8) = (ns.take 8).map V.int := by
  unfold cutV
  rw [HT.sIx_none, show (8 : Int) = ((8 : Nat) : Int) from rfl, HT.sIx_nat, List.drop_zero, Nat.sub_zero, ← List.map_take, List.length_map]
  by_cases z : 8 ≤ ns.length
  · rw [Nat.min_eq_left z]
  · rw [Nat.min_eq_right (by omega), List.take_of_length_le (Nat.le_refl _), List.take_of_length_le (by omega)]
theorem all_rep : ∀ k : Nat, (List.replicate k true).all id = true
  | 0 => rfl
  | k + 1 => all_rep k
theorem ok_law (T : Txt K mg) {fd : FuncData} (F : FnT K "law" S_law fd) (TB : LamX.TabB base mg (He.cT K ("law", none)).1 (He.cT K ("law", none)).2) : FnOk P w K mg base CX0 10 (He.ga K "law") fd ["_law_script"] (spLaw K (He.cT K ("law", none)).2) := by
  have D_law_draw : DefOk P w K mg base CX0 1 "_law_draw" ["_law_cell", "_law_k", "_law_bound"] spDraw := ok_law_draw T
  have D_law_whole : DefOk P w K mg base CX0 1 "_law_whole" ["_law_found"] spLawWhole := ok_law_whole T
  have D_law_by_left : DefOk P w K mg base CX0 2 "_law_by_left" ["_law_n"] spByLeft := ok_law_by_left T
  have D_law_counts : DefOk P w K mg base CX0 1 "_law_counts" ["_law_n"] spCounts := ok_law_counts T
  have D_full_by_left : DefOk P w K mg base (L2.CX P w) 6 "full_by_left" ["n"] (spFull K (He.ga K "NoNumber")) := ok_full_by_left T
  have D_law_class : PinOkD P w K mg base 1 "_law_class" ["_law_error"] (spClass K) := ok_law_class T
  obtain ⟨oc, od, dV, kV, doc, pm, an, cdv, ct, osl, rfl, lk, hcd, _, _⟩ := F.ex
  obtain ⟨c0, rfl⟩ := He.codeIn_ref hcd
  have ec : He.codeOf K ("law", none) = c0 := He.codeOf_eq lk rfl
  generalize ePt : (He.cT K ("law", none)).2 = Pt at *
  have eC : (He.cT K ("law", none)).1 = c0 := ec
  rw [eC] at TB
  refine fn_of lk hcd sc_law (fun vs H Q E h => ?_) (fun A outer s H vs Q E hr h => ?_)
  · obtain ⟨a, ns, rfl, _⟩ := h; rfl
  · obtain ⟨a, ns, rfl, hl, hS, hP, q⟩ := h
    have hcode : (envOfC "law" (defScope S_law) s.heap.objs.size (He.ga K "law") (.ref c0)).code = .ref c0 := rfl
    refine ⟨_, PSs.nox (pss_cons (ps_for PassesOwn.never rfl (pi_list (pe_op op_cat (pe_lst (pa_cons pe_int (pa_cons pe_int (pa_cons pe_int pa_nil)))) (pe_lc (own := [("_law_cell", 6)]) (g := gName 6) (tt := tYes) (by rfl) sc_law.nd (pi_list (pe_slice (slLK K) (pv 0) po_none (po_some pe_int))) (blkOk_by (own := [("_law_cell", 6)]) (N := N_law) (sc := defScope S_law) (by decide +kernel)) (fun _ _ _ _ _ => (pg_name (i := 6) sc_law.nd rfl (Or.inl rfl))) (fun _ _ _ _ _ => pts_nil) (fun _ _ _ _ _ => (pe_op op_add pe_int (pe_callD D_law_draw hr (by rfl) pass0 (pa_cons (pv 6) (pa_cons pe_int (pa_cons (pe_ix (ixLK K) (pe_lst (pa_cons pe_int (pa_cons pe_int pa_nil))) (pe_callD D_law_draw hr (by rfl) pass0 (pa_cons (pv 6) (pa_cons pe_int (pa_cons pe_int pa_nil)))) (fun _ _ => rfl)) pa_nil))))))))) (pg_name (i := 1) sc_law.nd rfl (Or.inl rfl)) (pss_cons (ps_set (i := 2) sc_law.nd rfl (Or.inl rfl) (pe_callD D_law_by_left hr (by rfl) pass0 (pa_cons (pv 1) pa_nil)))
 (pss_one (ps_for PassesOwn.never rfl (pi_range1 (by rfl) T.n_range (pa_cons pe_int pa_nil)) (pg_name (i := 3) sc_law.nd rfl (Or.inl rfl)) (pss_cons (ps_set (i := 4) sc_law.nd rfl (Or.inl rfl) (pe_callD D_full_by_left hr (by rfl) passL (pa_cons (pv 1) pa_nil)))
 (pss_cons (ps_if (PW.pt (pw_or (pt_not (pt_val (pe_callB (isiK K) (by rfl) T.n_isinstance (by decide +kernel) (pa_cons (pv 4) (pa_cons (pe_bltn (v := .ty "list") (u := .type "list") (by rfl) T.n_list (by decide +kernel) rfl) pa_nil))))) (pw_or (pt_cmpR (neDK K hr.units) (pv 4) (pv 2) (nomark _)) (pw_or1 (pt_not (pt_val (pe_callB (allK K rfl) (by rfl) T.n_all (by decide +kernel) (pa_cons (pe_lc (own := [("_law_one", 7)]) (g := gName 7) (tt := tYes) (by rfl) sc_law.nd (pi_list (pv 4)) (blkOk_by (own := [("_law_one", 7)]) (N := N_law) (sc := defScope S_law) (by decide +kernel)) (fun _ _ _ _ _ => (pg_name (i := 7) sc_law.nd rfl (Or.inl rfl))) (fun _ _ _ _ _ => pts_nil) (fun _ _ _ _ _ => (pe_callD D_law_whole hr (by rfl) pass0 (pa_cons (pv 7) pa_nil)))) pa_nil)))))))) (pss_one (ps_ret pe_bl)) pss_nil)
 (pss_one (ps_expr (pe_bm PySem.F.plainAttrs_list PySem.F.slot_list_append PySem.F.type_list_append mt_append (pv 4) (pa_cons pe_int pa_nil))))))))))
 (pss_cons (ps_for PassesOwn.never rfl (pi_list (pe_lst (pa_cons pe_int (pa_cons (pe_un un_neg pe_int) (pa_cons pe_int (pa_cons pe_bl (pa_cons pe_non (pa_cons pe_str (pa_cons (pe_tup (pa_cons pe_int pa_nil)) pa_nil))))))))) (pg_name (i := 5) sc_law.nd rfl (Or.inr rfl)) (pss_one (ps_if (pt_cmpR op_ne (pe_refused (t := fun E => (tCall (spFull K (He.ga K "NoNumber")) [] E (tCons (tVar 5) tNil))) T.d_law_refused T.g_law_refused D_law_class T.g_TurnError TB hr hcode (fun A outer s H E f c' hr2 => (pe_callD (E := E) D_full_by_left hr2 (by rfl) (passOut (takes_of rfl rfl rfl rfl)) (pa_cons (pv 5) pa_nil))) (L := LamX.lamS_by (show LamX.lamSB (defScope S_law) _ = true by decide +kernel))) pe_str (nomark _)) (pss_one (ps_ret pe_bl)) pss_nil)))
 (pss_one (ps_ret (pe_cmpR op_eq (pe_callB (sumK K rfl) (by rfl) T.n_sum (by decide +kernel) (pa_cons (pe_callD D_full_by_left hr (by rfl) passL (pa_cons pe_int pa_nil)) pa_nil)) (pe_ix (ixLK K) (pe_callD D_law_counts hr (by rfl) pass0 (pa_cons pe_int pa_nil)) pe_int (fun _ _ => rfl)) (nomark _)))))), ?_⟩
    have T0 : LamX.Tabs [(Pt, ("law" : Str) ++ (".<locals>." : Str) ++ ("<lambda>" : Str))] H := fun z hz => by rw [List.mem_singleton.mp hz]; exact LamX.TabS.nil hP
    refine ⟨sz 3, fun u nu => ?_⟩
    have su := same_new (o := .lst [.int 1, .int 2, .int 3]) nu
    refine ⟨_, rfl, 8, rfl, a, _, rfl, su.seq hS, fun c nc => ?_⟩
    rw [cut_eight]
    have sc := same_new (o := .lst ((ns.take 8).map V.int)) nc
    refine ⟨c, rfl, ⟨_, SqL.of upd_same⟩, fun D nD => ?_⟩
    have fD : H D = none := (su.trans sc).free nD
    refine lc_list (K := K) (xs := (ns.take 8).map V.int) (fun i H3 => Same (upd (upd H u (.lst [.int 1, .int 2, .int 3])) c (.lst ((ns.take 8).map V.int))) H3 ∧ ∃ zs : List Int, zs.length = i ∧ (∀ z ∈ zs, 1 ≤ z ∧ z ≤ 40) ∧ H3 D = some (.lst (zs.map V.int))) ⟨same_new nD, [], rfl, (fun z hz => by cases hz), upd_same⟩ (fun i H3 _ ⟨s3, _⟩ => s3.seq (SqL.of upd_same)) ?_ ?_
    · rintro i x H3 hx ⟨s3, zs, lz, bz, eD⟩
      obtain ⟨cv, hcv, rfl⟩ := get_ints hx
      have hi8 : i < 8 := by
        have := (List.getElem?_eq_some_iff.mp hcv).1
        rw [List.length_take] at this
        omega
      refine ⟨rfl, _, rfl, sz 2, fun l nl => ?_⟩
      have sl := same_new (o := .lst [.int 8, .int 40]) nl
      refine ⟨_, rfl, cv, 1, 2, rfl, by decide, by decide, by decide, by decide, fun r0 a0 a1 => ?_⟩
      have key : ∃ b : Int, 0 < b ∧ b ≤ 40 ∧ atI ([.int 8, .int 40] : List V) r0 = some (.int b) := by
        rcases (show r0 = 0 ∨ r0 = 1 by omega) with rfl | rfl
        · exact ⟨8, by decide, by decide, rfl⟩
        · exact ⟨40, by decide, by decide, rfl⟩
      obtain ⟨b, b0, b1, hb⟩ := key
      refine ⟨l, _, _, _, rfl, rfl, SqL.of upd_same, hb, cv, 0, b, rfl, by decide, by decide, b0, by omega, fun r1 d0 d1 => ⟨_, _, rfl, rfl, ?_⟩⟩
      refine ⟨_, sl _ _ eD, small_n (by rw [List.length_map]; omega), same_set (s3.trans sl) nD, zs ++ [1 + r1], by rw [List.length_append, lz]; rfl, fun z hz => ?_, by rw [upd_same, List.map_append]; rfl⟩
      cases List.mem_append.mp hz with
      | inl k => exact bz z k
      | inr k => rw [List.mem_singleton.mp k]; omega
    rintro H3 ⟨s3, zs, lz, bz, eD⟩
    have lz8 : zs.length ≤ 8 := by rw [lz, List.length_map, List.length_take]; omega
    have eu := s3 _ _ (sc _ _ (upd_same (H := H) (a := u) (o := .lst [.int 1, .int 2, .int 3])))
    refine ⟨u, D, _, _, rfl, rfl, eu, eD, sz' (by rw [List.length_map]; show 3 + zs.length ≤ 1000; omega), fun p np => ?_⟩
    have s03 := (su.trans sc).trans s3
    have sp := same_new (o := .lst (([1, 2, 3] ++ zs).map V.int)) np
    have T1 := tabs_same T0 (s03.trans sp)
    refine ⟨p, rfl, ⟨_, SqL.of upd_same⟩, for_list (xs := ([1, 2, 3] ++ zs).map V.int) (fun i σ H' => (∃ x1 x2 x3 x4 x5 x6 x7 : Option V, σ = [some (.ref a), x1, x2, x3, x4, x5, x6, x7]) ∧ LamX.ExtN (upd H3 p (.lst (([1, 2, 3] ++ zs).map V.int))) H' ∧ LamX.Tabs [(Pt, ("law" : Str) ++ (".<locals>." : Str) ++ ("<lambda>" : Str))] H') ⟨⟨_, _, _, _, _, _, _, rfl⟩, LamX.ExtN.refl _, T1⟩ (fun i σ H' _ ⟨_, e, _⟩ => ext_seq e (SqL.of upd_same)) ?_ ?_⟩
    · rintro i x σ H' hx ⟨⟨x1, x2, x3, x4, x5, x6, x7, rfl⟩, e1, t1⟩
      obtain ⟨n, rfl, n1, n40⟩ := in_forty bz hx
      refine ⟨_, rfl, n, rfl, n1, n40, fun H4 q s4 nq eq => ?_⟩
      refine ⟨2, rfl, by decide, by decide, for_range (lo := 0) (n := 2) (fun i σ H6 => (∃ x3 x4 x5 x6 x7 : Option V, σ = [some (.ref a), some (.int (n : Int)), some (.ref q), x3, x4, x5, x6, x7]) ∧ LamX.ExtN H4 H6 ∧ LamX.Tabs [(Pt, ("law" : Str) ++ (".<locals>." : Str) ++ ("<lambda>" : Str))] H6) ⟨⟨_, _, _, _, _, rfl⟩, LamX.ExtN.refl _, tabs_same t1 s4⟩ ?_ ?_⟩
      · rintro i σ H6 hi ⟨⟨x3, x4, x5, x6, x7, rfl⟩, e6, t6⟩
        refine ⟨_, rfl, _, true, rfl, thing_int _, fun c => absurd ⟨_, rfl, by omega, by omega⟩ c, fun n' en h41 h42 H7 f s7 ff ef => ?_⟩
        have en := V.int.inj en
        obtain rfl : n = n' := by omega
        have eq7 : SqL K H7 q ((dueN n).map V.int) := s7.seq (ext_seq e6 (SqL.of eq))
        rw [dueN_eq n1 n40] at eq7
        refine ⟨_, rfl, _, _, _, _, _, rfl, .ty "list", .base (.lst ef), kit_ll, _, rfl, iteF ?_⟩
        refine ⟨_, rfl, _, rfl, ?_⟩
        refine ne_same (dp_list (SqL.of ef)) (dp_list eq7) (shaped_ints _) (eqv_ints _) ⟨false, rfl, iteF ?_⟩
        refine ⟨_, rfl, f, rfl, ⟨_, SqL.of ef⟩, fun L nL => ?_⟩
        refine lc_list (K := K) (xs := (fullL n).map V.int) (fun i H9 => Same H7 H9 ∧ H9 L = some (.lst ((List.replicate i true).map V.bl))) ⟨same_new nL, upd_same⟩ (fun i H9 _ ⟨s9, _⟩ => s9.seq (SqL.of ef)) ?_ ?_
        · rintro i x H9 hx ⟨s9, eL⟩
          obtain ⟨z, hz, rfl⟩ := get_ints hx
          have hlt := (List.getElem?_eq_some_iff.mp hz).1
          rw [fullL_len] at hlt
          refine ⟨rfl, _, rfl, z, rfl, _, eL, small_n (by rw [List.length_map, List.length_replicate]; omega), same_set s9 nL, ?_⟩
          rw [upd_same, List.replicate_succ', List.map_append]; rfl
        rintro H9 ⟨s9, eL⟩
        refine ⟨L, _, rfl, SqL.of eL, ?_⟩
        rw [all_rep]
        refine ⟨_, rfl, iteF ?_⟩
        have ef9 := s9 _ _ ef
        have s69 := s7.trans s9
        refine ⟨_, rfl, .inl ⟨rfl, _, SqL.of ef9⟩, f, _, _, rfl, rfl, ef9, small_n (by rw [List.length_map, fullL_len]; omega), ?_⟩
        exact ⟨⟨_, _, _, _, _, rfl⟩, e6.trans (ext_set (Same.ext s69) ff), tabs_upd (tabs_same t6 s69) ef9⟩
      · rintro σ H6 ⟨⟨x3, x4, x5, x6, x7, rfl⟩, e6, t6⟩
        exact ⟨⟨_, _, _, _, _, _, _, rfl⟩, (e1.trans (Same.ext s4)).trans e6, t6⟩
    · rintro σ H' ⟨⟨x1, x2, x3, x4, x5, x6, x7, rfl⟩, e1, t1⟩
      refine ⟨_, rfl, sz 1, fun tt nt => ?_⟩
      refine ⟨sz 7, fun l nl => ?_⟩
      have st := same_new (o := .tup [.int 2]) nt
      have sl := same_new (o := .lst [.int 0, .int (-1), .int 41, .bl true, .non, .str "2", .ref tt]) nl
      have et := sl _ _ (upd_same (H := H') (a := tt) (o := .tup [.int 2]))
      have el : (upd (upd H' tt (.tup [.int 2])) l (.lst [.int 0, .int (-1), .int 41, .bl true, .non, .str "2", .ref tt])) l = some (.lst [.int 0, .int (-1), .int 41, .bl true, .non, .str "2", .ref tt]) := upd_same
      have t2 := tabs_same t1 (st.trans sl)
      generalize upd (upd H' tt (.tup [.int 2])) l (.lst [.int 0, .int (-1), .int 41, .bl true, .non, .str "2", .ref tt]) = HB at *
      have bad : ∀ (i : Nat) (x : V), ([.int 0, .int (-1), .int 41, .bl true, .non, .str "2", .ref tt] : List V)[i]? = some x → ∃ z, Thing K HB x z ∧ ¬ NumOk x 1 40 := fun i x hx => by
        have off : ∀ j : Int, (j < 1 ∨ 40 < j) → ¬ NumOk (.int j) 1 40 := fun j hj ⟨y, e, h1, h2⟩ => by
          cases e; omega
        match i, hx with
        | 0, hx => cases hx; exact ⟨_, thing_int _, off _ (by decide)⟩
        | 1, hx => cases hx; exact ⟨_, thing_int _, off _ (by decide)⟩
        | 2, hx => cases hx; exact ⟨_, thing_int _, off _ (by decide)⟩
        | 3, hx => cases hx; exact ⟨_, thing_bl _, fun ⟨_, e, _⟩ => nomatch e⟩
        | 4, hx => cases hx; exact ⟨_, thing_non, fun ⟨_, e, _⟩ => nomatch e⟩
        | 5, hx => cases hx; exact ⟨_, thing_str _, fun ⟨_, e, _⟩ => nomatch e⟩
        | 6, hx => cases hx; exact ⟨_, thing_tup et, fun ⟨_, e, _⟩ => nomatch e⟩
      refine ⟨l, rfl, ⟨_, SqL.of el⟩, for_list (xs := [.int 0, .int (-1), .int 41, .bl true, .non, .str "2", .ref tt]) (fun i σ H5 => (∃ x1 x2 x3 x4 x5 x6 x7 : Option V, σ = [some (.ref a), x1, x2, x3, x4, x5, x6, x7]) ∧ LamX.ExtN HB H5 ∧ LamX.Tabs [(Pt, ("law" : Str) ++ (".<locals>." : Str) ++ ("<lambda>" : Str))] H5) ⟨⟨_, _, _, _, _, _, _, rfl⟩, LamX.ExtN.refl _, t2⟩ (fun i σ H5 _ ⟨_, e, _⟩ => ext_seq e (SqL.of el)) ?_ ?_⟩
      · rintro i x σ H5 hx ⟨⟨x1, x2, x3, x4, x5, x6, x7, rfl⟩, e5, t5⟩
        obtain ⟨z, hT, hbad⟩ := bad i x hx
        refine ⟨t5, fun H6 e6 t6 => ?_⟩
        refine ⟨_, rfl, _, z, rfl, thing_ext (e5.trans e6) hT, fun _ => ?_, fun n' en h1 h2 => absurd ⟨_, en, by omega, by omega⟩ hbad⟩
        refine ⟨rfl, _, 1, "number", rfl, T.j_NoNumber, rfl, fun H7 s7 => ?_⟩
        dsimp only [tC]
        refine neS_same ?_
        refine ⟨false, rfl, iteF ?_⟩
        exact ⟨⟨_, _, _, _, _, _, _, rfl⟩, (e5.trans e6).trans (Same.ext s7), tabs_same t6 s7⟩
      · rintro σ H5 ⟨⟨x1, x2, x3, x4, x5, x6, x7, rfl⟩, e5, t5⟩
        refine ⟨_, true, rfl, thing_int _, fun c => absurd ⟨_, rfl, by omega, by omega⟩ c, fun n' en h41 h42 H7 f s7 ff ef => ?_⟩
        have en := V.int.inj en
        obtain rfl : n' = 40 := by omega
        refine ⟨f, _, rfl, SqL.of ef, 40, rfl, by omega, fun H8 p2 s8 np2 ep2 => ?_⟩
        have l40 : 40 < (foundN 40).length := by rw [foundN_len]; decide
        refine ⟨p2, _, _, _, rfl, rfl, SqL.of ep2, at_of (j := 40) rfl (getI l40), rfl, ?_⟩
        rw [full_forty, decide_eq_true rfl]
        exact q _
end
def D_choose : He.DefD := ⟨("choose", none), "choose", "choose", defArgs S_choose, defBody S_choose, defScope S_choose, [], []⟩
def D_is_whole : He.DefD := ⟨("is_whole", none), "is_whole", "is_whole", defArgs S_is_whole, defBody S_is_whole, defScope S_is_whole, [], []⟩
def D_need_number : He.DefD := ⟨("need_number", none), "need_number", "need_number", defArgs S_need_number, defBody S_need_number, defScope S_need_number, [], []⟩
def D_row_behind : He.DefD := ⟨("row_behind", none), "row_behind", "row_behind", defArgs S_row_behind, defBody S_row_behind, defScope S_row_behind, [], []⟩
def D_rows_to : He.DefD := ⟨("rows_to", none), "rows_to", "rows_to", defArgs S_rows_to, defBody S_rows_to, defScope S_rows_to, [], []⟩
def D_row : He.DefD := ⟨("row", none), "row", "row", defArgs S_row, defBody S_row, defScope S_row, [], []⟩
def D_ways_with : He.DefD := ⟨("ways_with", none), "ways_with", "ways_with", defArgs S_ways_with, defBody S_ways_with, defScope S_ways_with, [], []⟩
def D_full_by_left : He.DefD := ⟨("full_by_left", none), "full_by_left", "full_by_left", defArgs S_full_by_left, defBody S_full_by_left, defScope S_full_by_left, [], []⟩
def D_law_draw : He.DefD := ⟨("_law_draw", none), "_law_draw", "_law_draw", defArgs S_law_draw, defBody S_law_draw, defScope S_law_draw, [], []⟩
def D_law_whole : He.DefD := ⟨("_law_whole", none), "_law_whole", "_law_whole", defArgs S_law_whole, defBody S_law_whole, defScope S_law_whole, [], []⟩
def D_law_class : He.DefD := ⟨("_law_class", none), "_law_class", "_law_class", defArgs S_law_class, defBody S_law_class, defScope S_law_class, [], []⟩
def D_law_refused : He.DefD := ⟨("_law_refused", none), "_law_refused", "_law_refused", defArgs S_law_refused, defBody S_law_refused, defScope S_law_refused, [], []⟩
def D_law_counts : He.DefD := ⟨("_law_counts", none), "_law_counts", "_law_counts", defArgs S_law_counts, defBody S_law_counts, defScope S_law_counts, [], []⟩
def D_law_all_updowns : He.DefD := ⟨("_law_all_updowns", none), "_law_all_updowns", "_law_all_updowns", defArgs S_law_all_updowns, defBody S_law_all_updowns, defScope S_law_all_updowns, [], []⟩
def D_law_chosen : He.DefD := ⟨("_law_chosen", none), "_law_chosen", "_law_chosen", defArgs S_law_chosen, defBody S_law_chosen, defScope S_law_chosen, [], []⟩
def D_law_by_left : He.DefD := ⟨("_law_by_left", none), "_law_by_left", "_law_by_left", defArgs S_law_by_left, defBody S_law_by_left, defScope S_law_by_left, [], []⟩
def D_law : He.DefD := ⟨("law", none), "law", "law", defArgs S_law, defBody S_law, defScope S_law, [], []⟩
def fn : List He.DefD := [D_choose, D_is_whole, D_need_number, D_row_behind, D_rows_to, D_row, D_ways_with, D_full_by_left, D_law_draw, D_law_whole, D_law_class, D_law_refused, D_law_counts, D_law_all_updowns, D_law_chosen, D_law_by_left, D_law]
def fa : List He.Fa := [.glo "choose", .glo "is_whole", .glo "need_number", .glo "row_behind", .glo "rows_to", .glo "row", .glo "ways_with", .glo "full_by_left", .glo "_law_draw", .glo "_law_whole", .glo "_law_class", .glo "_law_refused", .glo "_law_counts", .glo "_law_all_updowns", .glo "_law_chosen", .glo "_law_by_left", .glo "law", .free "isinstance", .free "int", .free "bool", .free "len", .free "sum", .free "range", .free "list", .free "all", .free "max", .free "min", .free "ValueError", .int "MOST" 40, .int "MOST_ROWS" 60, .glo "TurnError", .glo "NoOrder", .glo "NoNumber", .glo "NoRow", .glo "NotUpDown", .glo "NoPattern", .glo "NoTree", .glo "NoLoose", .glo "NoRing", .glo "NoFraction", .glo "NoText", .glo "NoDeed", .glo "NoLine", .exc "NoNumber"]
def ex (K : PySem.W.Frag) : Bool := [(1, "NoNumber")].all fun q => classB K q.1 q.2
def tf : List He.Defn := [("law", none)]
theorem txt_of {w : World} {h : Heap} {K : PySem.W.Frag} {mg : Str → Option Value} (X : K.In h) (G : h.Ns mainGlobals mg) (c : He.SaysX fa fn [] tf ex w h K) : Txt K mg :=
  { d_choose := c.t.d.def_ 0 (d := D_choose) rfl, g_choose := He.glo_ok X G (c.t.d.fact 0 (f := .glo "choose") rfl),
    d_is_whole := c.t.d.def_ 1 (d := D_is_whole) rfl, g_is_whole := He.glo_ok X G (c.t.d.fact 1 (f := .glo "is_whole") rfl),
    d_need_number := c.t.d.def_ 2 (d := D_need_number) rfl, g_need_number := He.glo_ok X G (c.t.d.fact 2 (f := .glo "need_number") rfl),
    d_row_behind := c.t.d.def_ 3 (d := D_row_behind) rfl, g_row_behind := He.glo_ok X G (c.t.d.fact 3 (f := .glo "row_behind") rfl),
    d_rows_to := c.t.d.def_ 4 (d := D_rows_to) rfl, g_rows_to := He.glo_ok X G (c.t.d.fact 4 (f := .glo "rows_to") rfl),
    d_row := c.t.d.def_ 5 (d := D_row) rfl, g_row := He.glo_ok X G (c.t.d.fact 5 (f := .glo "row") rfl),
    d_ways_with := c.t.d.def_ 6 (d := D_ways_with) rfl, g_ways_with := He.glo_ok X G (c.t.d.fact 6 (f := .glo "ways_with") rfl),
    d_full_by_left := c.t.d.def_ 7 (d := D_full_by_left) rfl, g_full_by_left := He.glo_ok X G (c.t.d.fact 7 (f := .glo "full_by_left") rfl),
    d_law_draw := c.t.d.def_ 8 (d := D_law_draw) rfl, g_law_draw := He.glo_ok X G (c.t.d.fact 8 (f := .glo "_law_draw") rfl),
    d_law_whole := c.t.d.def_ 9 (d := D_law_whole) rfl, g_law_whole := He.glo_ok X G (c.t.d.fact 9 (f := .glo "_law_whole") rfl),
    d_law_class := c.t.d.def_ 10 (d := D_law_class) rfl, g_law_class := He.glo_ok X G (c.t.d.fact 10 (f := .glo "_law_class") rfl),
    d_law_refused := c.t.d.def_ 11 (d := D_law_refused) rfl, g_law_refused := He.glo_ok X G (c.t.d.fact 11 (f := .glo "_law_refused") rfl),
    d_law_counts := c.t.d.def_ 12 (d := D_law_counts) rfl, g_law_counts := He.glo_ok X G (c.t.d.fact 12 (f := .glo "_law_counts") rfl),
    d_law_all_updowns := c.t.d.def_ 13 (d := D_law_all_updowns) rfl, g_law_all_updowns := He.glo_ok X G (c.t.d.fact 13 (f := .glo "_law_all_updowns") rfl),
    d_law_chosen := c.t.d.def_ 14 (d := D_law_chosen) rfl, g_law_chosen := He.glo_ok X G (c.t.d.fact 14 (f := .glo "_law_chosen") rfl),
    d_law_by_left := c.t.d.def_ 15 (d := D_law_by_left) rfl, g_law_by_left := He.glo_ok X G (c.t.d.fact 15 (f := .glo "_law_by_left") rfl),
    d_law := c.t.d.def_ 16 (d := D_law) rfl, g_law := He.glo_ok X G (c.t.d.fact 16 (f := .glo "law") rfl),
    n_isinstance := He.free_ok X G (c.t.d.fact 17 (f := .free "isinstance") rfl),
    n_int := He.free_ok X G (c.t.d.fact 18 (f := .free "int") rfl),
    n_bool := He.free_ok X G (c.t.d.fact 19 (f := .free "bool") rfl),
    n_len := He.free_ok X G (c.t.d.fact 20 (f := .free "len") rfl),
    n_sum := He.free_ok X G (c.t.d.fact 21 (f := .free "sum") rfl),
    n_range := He.free_ok X G (c.t.d.fact 22 (f := .free "range") rfl),
    n_list := He.free_ok X G (c.t.d.fact 23 (f := .free "list") rfl),
    n_all := He.free_ok X G (c.t.d.fact 24 (f := .free "all") rfl),
    n_max := He.free_ok X G (c.t.d.fact 25 (f := .free "max") rfl),
    n_min := He.free_ok X G (c.t.d.fact 26 (f := .free "min") rfl),
    n_ValueError := He.free_ok X G (c.t.d.fact 27 (f := .free "ValueError") rfl),
    c_MOST := He.int_ok X G (c.t.d.fact 28 (f := .int "MOST" 40) rfl),
    c_MOST_ROWS := He.int_ok X G (c.t.d.fact 29 (f := .int "MOST_ROWS" 60) rfl),
    g_TurnError := He.glo_ok X G (c.t.d.fact 30 (f := .glo "TurnError") rfl),
    g_NoOrder := He.glo_ok X G (c.t.d.fact 31 (f := .glo "NoOrder") rfl),
    g_NoNumber := He.glo_ok X G (c.t.d.fact 32 (f := .glo "NoNumber") rfl),
    g_NoRow := He.glo_ok X G (c.t.d.fact 33 (f := .glo "NoRow") rfl),
    g_NotUpDown := He.glo_ok X G (c.t.d.fact 34 (f := .glo "NotUpDown") rfl),
    g_NoPattern := He.glo_ok X G (c.t.d.fact 35 (f := .glo "NoPattern") rfl),
    g_NoTree := He.glo_ok X G (c.t.d.fact 36 (f := .glo "NoTree") rfl),
    g_NoLoose := He.glo_ok X G (c.t.d.fact 37 (f := .glo "NoLoose") rfl),
    g_NoRing := He.glo_ok X G (c.t.d.fact 38 (f := .glo "NoRing") rfl),
    g_NoFraction := He.glo_ok X G (c.t.d.fact 39 (f := .glo "NoFraction") rfl),
    g_NoText := He.glo_ok X G (c.t.d.fact 40 (f := .glo "NoText") rfl),
    g_NoDeed := He.glo_ok X G (c.t.d.fact 41 (f := .glo "NoDeed") rfl),
    g_NoLine := He.glo_ok X G (c.t.d.fact 42 (f := .glo "NoLine") rfl),
    x_NoNumber := (He.exc_ok (c.t.d.fact 43 (f := .exc "NoNumber") rfl)).1, k_NoNumber := (He.exc_ok (c.t.d.fact 43 (f := .exc "NoNumber") rfl)).2.1, b_NoNumber := (He.exc_ok (c.t.d.fact 43 (f := .exc "NoNumber") rfl)).2.2.1, t_NoNumber := (He.exc_ok (c.t.d.fact 43 (f := .exc "NoNumber") rfl)).2.2.2, j_NoNumber := classB_ok (List.all_eq_true.mp (show ([(1, "NoNumber")].all fun q => classB K q.1 q.2) = true from c.more) (1, "NoNumber") (by decide)) }
abbrev R : PySem.W.OpenRow := PySem.W.OpenLaw.row PySem.Challenge.rw_upanddowns_k54_full_trees_counted
abbrev hk : PySem.W.Hook := He.hookX 4 fa fn [] tf ex
def ob (s : PySem.W.SharedT) : He.AlX := He.obsX 4 fa fn [] tf ex (HandSHeadRun.getT s)
theorem ob_eq (s : PySem.W.SharedT) : ob s = hk.obs s.abs := He.obsX_eq (HandSHeadRun.getT_eq s)
def loose : List PySem.Str := (["choose", "TurnError", "NoOrder", "NoNumber", "NoRow", "NotUpDown", "NoPattern", "NoTree", "NoLoose", "NoRing", "NoFraction", "NoText", "NoDeed", "NoLine", "is_whole", "need_number", "row_behind", "rows_to", "row", "ways_with", "full_by_left", "_law_draw", "_law_whole", "_law_class", "_law_refused", "_law_counts", "_law_all_updowns", "_law_chosen", "_law_by_left", "MOST"] : List PySem.Str) ++ (["MOST_ROWS"] : List PySem.Str)
theorem run (w : World) : HandSHeadRun.RunEq R (PySem.W.view R.prog [38]) hk ob 4000 loose w := by
  intro os
  kernel_rfl
theorem law_at {w : World} {h : Heap} {K : PySem.W.Frag} {mg : Str → Option Value} {fa1 : Addr} (X : K.In h) (G : h.Ns mainGlobals mg) (hfa : mg "law" = some (.ref fa1)) (c : He.SaysX fa fn [] tf ex w h K) : LamX.LawAtS PySem.Challenge.rw_upanddowns_k54_full_trees_counted w K CX0 10 63 "_law_script" mg fa1 h := by
  have T := txt_of X G c
  obtain ⟨fd, F⟩ := T.d_law
  have e := hfa.symm.trans T.g_law
  cases e
  refine ⟨fd, [He.cT K ("law", none)], spLaw K (He.cT K ("law", none)).2, fun p hp => ?_, fun p hp => ?_, fun p hp => ?_, fun s u => F.bindsA (ps := ["_law_script"]) (fun _ _ _ _ _ _ us hl => match us, hl with | [_], _ => rfl) s [u] rfl, fun H a ns hl _ hT hS => ⟨a, ns, rfl, hl, hS, hT _ List.mem_cons_self, fun _ => rfl⟩, fun base _ _ TB => ok_law T F (TB _ List.mem_cons_self)⟩
  · rw [List.mem_singleton.mp hp]; exact c.empty _ List.mem_cons_self
  · rw [List.mem_singleton.mp hp]; exact c.out _ List.mem_cons_self
  · rw [List.mem_singleton.mp hp]; exact PySem.W.codeHd_of_K X (c.hd _ List.mem_cons_self)
end K54
open PySem PySem.W PySem.Calls PyProof.Rows
theorem PySem.Challenge.cw_upanddowns_k54_full_trees_counted_holds : PySem.Challenge.rw_upanddowns_k54_full_trees_counted.Holds := by
  w_on; o_law
  refine HandSHeadRun.head_any (r := OpenLaw.row PySem.Challenge.rw_upanddowns_k54_full_trees_counted) (q := view (OpenLaw.row PySem.Challenge.rw_upanddowns_k54_full_trees_counted).prog [38]) (H := K54.hk) (ob := K54.ob) (M := 4000) (loose := K54.loose) (d := HandSHeadRun.topDef (OpenLaw.row PySem.Challenge.rw_upanddowns_k54_full_trees_counted).prog 38) (kwd := []) K54.ob_eq
    (by kernel_rfl) (fun s => by kernel_rfl) K54.run (by kernel_rfl) (by kernel_rfl) (by kernel_rfl) (by rfl) (by first | assumption | decide +kernel) (by decide +kernel) ⟨rfl, rfl, rfl, rfl, rfl, by decide +kernel⟩ ?hw ?hc
  case hw => w_witness2
  case hc =>
    refine LamX.walk_ofTsE (l := PySem.Challenge.rw_upanddowns_k54_full_trees_counted) (n := 63) (k := 10) (x := "_law_script") (CX := fun _ => L2.CX0) rfl (by decide) (by kernel_rfl) ⟨rfl, by decide, by decide⟩ ?F (fun _ _ _ _ _ z => z)
    intro w mg fa h Y G hmg0
    obtain ⟨K, KX, c⟩ := Y
    have hmg : mg ("law" : PySem.Str) = some (.ref fa) := by
      have e : (HandSHeadRun.topDef (OpenLaw.row PySem.Challenge.rw_upanddowns_k54_full_trees_counted).prog 38).name = ("law" : PySem.Str) := by kernel_rfl
      rw [← e]
      exact hmg0
    exact ⟨K, KX, K54.law_at KX G hmg c⟩

