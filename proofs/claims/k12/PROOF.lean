import PyProof.Rows.All
import Wide.All
import OpenK.AllK
import Wide.FinOn
import PyProof.EqAt
import PyProof.EqKinds
import PyProof.TupleCall
import KE.KLam
import HandS.ForMost
import HandS.Exc
import HandS.TryOnly
import HandS.ExcOwn
import HandS.WordsExc
import HandS.Lambda
import HandS.HotCalls
import HandS.IsInst
import HandS.ExcIs
import HandS.RaiseMore
import HandS.FStr
import HandS.Style
import HandS.Wide
import HandS.Defaults
import HandS.CallLocal
import HandS.Head2
import HandS.HeadHook4
import HandS.HeadWalk
import PySem.Challenge.RW_upanddowns_k12_how_many_up_downs
set_option Elab.async false
set_option linter.all false
set_option maxRecDepth 100000
set_option maxHeartbeats 2000000
namespace Up
open PySem PySem.Spec PyProof.Rows L2
/-! ### a def of the text, told by its name -/
structure DefOk (P : Program) (w : World) (K : PySem.W.Frag) (mg : Str → Option Value) (base : Heap) (CX : CXT) (k : Nat) (x : Str) (ps : List Str) (sp : Sp) : Prop where
  gl : mg x = some (.ref (He.ga K x))
  kp : PySem.W.keepIn K (.ref (He.ga K x)) = true
  ex : ∃ fd, FnOk P w K mg base CX k (He.ga K x) fd ps sp ∧ Binds K fd ps []
theorem pe_callD {X : Cx} {CX : CXT} {k j : Nat} {x : Str} {ps : List Str} {sp : Sp} {E : XK} {e : Expr} {es : List Expr} {t : TA} {p pos : Pos} (D : DefOk X.prog X.w X.K X.mg X.base CX k x ps sp) (hr : Room j X.A) (hg : Gl X x) (hx : Passes CX X E) (ha : PA X (e :: es) t)
    (hj : k ≤ j := by decide) (hdb : (x == ("__debug__" : Str)) = false := by decide) (he : starEach (e :: es) X.env = (false, eval e X.env) :: starEach es X.env := by rfl) (hpl : (backTo pos (starEach es X.env)).any (·.1) = false := by rfl) :
    PE X (.Call (.Name x p) (e :: es) [] pos) (tCall sp [] E t) := by
  obtain ⟨fd, F, b⟩ := D.ex
  exact pe_call F (hr.mono hj) hg D.gl D.kp b .nil hx ha hdb he hpl
abbrev FnT (K : PySem.W.Frag) (x : Str) (st : Stmt) (fd : FuncData) : Prop := FunD K x x (defArgs st) (defBody st) (defScope st) [] [] (He.ga K x) fd
theorem def_of {P : Program} {w : World} {K : PySem.W.Frag} {mg : Str → Option Value} {base : Heap} {CX : CXT} {k : Nat} {x : Str} {ps : List Str} {sp : Sp} {st : Stmt} (d : ∃ fd, FnT K x st fd) (g : mg x = some (.ref (He.ga K x)))
    (hb : ∀ (kV doc pm : Value) (an : Option Addr) (cdv ct : Value) (us : List Value), us.length = ps.length → bindArgs (PySem.W.fnOf x x (defArgs st) (defBody st) (defScope st) .none kV doc pm an cdv ct) ⟨us, []⟩ = pure (ps.zip us))
    (h : ∀ fd, FnT K x st fd → FnOk P w K mg base CX k (He.ga K x) fd ps sp) : DefOk P w K mg base CX k x ps sp := by
  obtain ⟨fd, F⟩ := d
  exact ⟨g, F.kp, fd, h fd F, F.bindsN hb⟩
theorem passOut {X : Cx} {E : XK} (tk : Takes X (fun cls d _ H => E cls d H)) : Passes (L2.CX X.prog X.w) X E := passes_call tk fun _ _ _ _ h => h
theorem sz (n : Nat) (h : n ≤ 1000 := by decide) : n ≤ sizeLine := Nat.le_trans h (by decide)
theorem szl (n : Nat) (h : n ≤ 1000 := by decide) : n < sizeLine := Nat.lt_of_le_of_lt h (by decide)
/-! ### rules with the written part K told apart (for blocks, whose context is a term) -/
def rLenQ (K : PySem.W.Frag) : List V → Hp → VK → Prop := fun xs H Q => ∃ p ys, xs = [.ref p] ∧ (SqL K H p ys ∨ SqT K H p ys) ∧ Q (.int ys.length) H
theorem lenK {X : Cx} (K : PySem.W.Frag) (h : X.K = K := by rfl) : CallR X (.builtin "len") (rLenQ K) := by subst h; exact call_len_seq
theorem ixLK {X : Cx} (K : PySem.W.Frag) (h : X.K = K := by rfl) : IxR X (rIxL K) := by subst h; exact ix_list
theorem ixTK {X : Cx} (K : PySem.W.Frag) (h : X.K = K := by rfl) : IxR X (rIxT K) := by subst h; exact ix_tup
theorem revLK {X : Cx} (K : PySem.W.Frag) {e : Expr} {te : TE} {k : Nat} {p1 p2 p3 pos : Pos} (he : PE X e te) (h : X.K = K := by rfl) : PE X (.Subscript e (.Slice none none (some (.UnaryOp .USub (.Constant (.int 1) k p1) p2)) p3) pos) (tRevL K te) := by subst h; exact pe_revL he
theorem slLK {X : Cx} (K : PySem.W.Frag) (h : X.K = K := by rfl) : SlR X (rSlL K) := by subst h; exact sl_list
theorem slTK {X : Cx} (K : PySem.W.Frag) (h : X.K = K := by rfl) : SlR X (rSlT K) := by subst h; exact sl_tup
theorem isiK {X : Cx} (K : PySem.W.Frag) (h : X.K = K := by rfl) : CallR X (.builtin "isinstance") (rIsi K) := by subst h; exact call_isi
theorem sumK {X : Cx} (K : PySem.W.Frag) (hc : X.calm = true) (h : X.K = K := by rfl) : CallR X (.builtin "sum") (rSum K) := by subst h; exact cr_sum hc
theorem anyK {X : Cx} (K : PySem.W.Frag) (hc : X.calm = true) (h : X.K = K := by rfl) : CallR X (.builtin "any") (rAny K) := by subst h; exact cr_any hc
theorem allK {X : Cx} (K : PySem.W.Frag) (hc : X.calm = true) (h : X.K = K := by rfl) : CallR X (.builtin "all") (rAll K) := by subst h; exact cr_all hc
theorem eqDK {X : Cx} (K : PySem.W.Frag) (hu : X.A.units + 64 < cLine) (h : X.K = K := by rfl) : OpR X (compareOp .Eq) (rEqD K) := by subst h; exact op_eqD hu
theorem neDK {X : Cx} (K : PySem.W.Frag) (hu : X.A.units + 64 < cLine) (h : X.K = K := by rfl) : OpR X (compareOp .NotEq) (rNeD K) := by subst h; exact op_neD hu
theorem inK {X : Cx} (K : PySem.W.Frag) (h : X.K = K := by rfl) : OpR X (compareOp .In) (rIn K false) := by subst h; exact op_in_seq
theorem notInK {X : Cx} (K : PySem.W.Frag) (h : X.K = K := by rfl) : OpR X (compareOp .NotIn) (rIn K true) := by subst h; exact op_notIn_seq
theorem catTK {X : Cx} (K : PySem.W.Frag) (h : X.K = K := by rfl) : OpR X (binaryOp .Add) (rCatT K) := by subst h; exact op_catT
/-! ### heaps -/
theorem same_new {H : Hp} {p : Addr} {o : HO} (h : H p = none) : Same H (upd H p o) := fun b x e => by
  rw [upd_ne (ne_of_none e h)]; exact e
theorem Same.ext {H H' : Hp} (s : Same H H') : LamX.ExtN H H' := fun b o h _ => s b o h
theorem ext_seq {K : PySem.W.Frag} {H H' : Hp} {a : Addr} {xs : List V} (e : LamX.ExtN H H') (h : SqL K H a xs) : SqL K H' a xs := by
  rcases h with (h | ⟨o, h⟩) | h
  · exact .inl (.inl (e _ _ h (fun _ z => by cases z)))
  · exact .inl (.inr ⟨o, e _ _ h (fun _ z => by cases z)⟩)
  · exact .inr h
theorem ext_set {H H' : Hp} {p : Addr} {o : HO} (e : LamX.ExtN H H') (n : H p = none) : LamX.ExtN H (upd H' p o) := fun b u h z => by
  rw [upd_ne (ne_of_none h n)]; exact e b u h z
theorem same_set {H H' : Hp} {p : Addr} {o : HO} (e : Same H H') (n : H p = none) : Same H (upd H' p o) := fun b u h => by
  rw [upd_ne (ne_of_none h n)]; exact e b u h
theorem tabs_same {T : List (Addr × Str)} {H H' : Hp} (t : LamX.Tabs T H) (s : Same H H') : LamX.Tabs T H' := t.ext s
/-- a list that no table and no code object stands at is changed -/
theorem tabs_upd {T : List (Addr × Str)} {H : Hp} {p : Addr} {xs : List V} {o : HO} (t : LamX.Tabs T H) (n : H p = some (.lst xs)) : LamX.Tabs T (upd H p o) := fun q hq => by
  obtain ⟨ps, h1, h2, h3⟩ := t q hq
  refine ⟨ps, ?_, h2, fun pos cv hc => ?_⟩
  · rw [upd_ne (ne_of h1 n (by intro z; cases z))]; exact h1
  · obtain ⟨c, e1, e2⟩ := h3 pos cv hc
    refine ⟨c, e1, ?_⟩
    rw [upd_ne (ne_of e2 n (by intro z; unfold LamX.CodeO at z; cases z))]; exact e2
/-! ### a def called while an exception is handled: the exception's object p stands -/
structure FnPin (P : Program) (w : World) (K : PySem.W.Frag) (mg : Str → Option Value) (base : Heap) (k : Nat) (f : Addr) (fd : FuncData) (ps : List Str) (sp : Addr × Obj → Sp) : Prop where
  len : ∀ p vs H Q E, sp p vs H Q E → vs.length = ps.length
  run : ∀ A outer s H args us vs Q E p, L2H.RoomH k A → L2H.PinOk outer H s p → Env0 P w K mg base A outer s H → BindsTo s fd args (ps.zip us) → Vals vs us → sp p vs H Q E →
    codeAny (model P w) A (.call (.ref f) args) (CR CX0 outer P w H s Q E) s
theorem pin_of {P : Program} {w : World} {K : PySem.W.Frag} {mg : Str → Option Value} {base : Heap} {k : Nat} {f : Addr} {x : Str} {prm : Arguments} {bd : List Stmt} {sc : Scope} {fd : FuncData} {N ps : List Str} {sp : Addr × Obj → Sp}
    (F : FunD K x x prm bd sc [] [] f fd) (S : FnScope N ps sc) (len : ∀ p vs H Q E, sp p vs H Q E → vs.length = ps.length)
    (hb : ∀ (cd : Value) (A : Around) (outer : List Env) (s : Shared) (H : Hp) (vs : List V) (Q : VK) (E : XK) (p : Addr × Obj), L2H.RoomH k (A.deeper (envOfC x sc s.heap.objs.size f cd)) → sp p vs H Q E →
      ∃ t, PSs (L2H.cxH CX0 P w K mg base N x sc f cd A outer s H E p) bd t ∧ t { nx := fun _ H' => Q .non H', rt := Q } (start N vs) H) : FnPin P w K mg base (k + 1) f fd ps sp := by
  obtain ⟨oc, od, dV, kV, doc, pm, an, cd, ct, osl, rfl, lk, hcd, _, _⟩ := F.ex
  refine ⟨len, ?_⟩
  intro A outer s H args us vs Q E p room pin e0 bind r hsp
  have inK : K.In s.heap := e0.mod.kin.keeps (fun b o e => (e0.bs b o e).1)
  have nolim : s.heap.NoLimit := e0.mod.nolimit.keeps (fun b o e => (e0.bs b o e).1)
  have kinds : ∀ y ∈ ps.zip us, sc.names.lookup y.1 = some .local ∨ (sc.names.lookup y.1 = some .cell ∧ ((cellsFrom (s.heap.objs.size + 1) sc.names []).lookup y.1).isSome = true) := by
    rintro ⟨n, v⟩ hy
    cases S.par n (List.of_mem_zip hy).1 with
    | inl q => exact Or.inl q
    | inr q => exact Or.inr ⟨q, PySem.W.cellsFrom_some _ _ _ (Or.inl q)⟩
  apply codeAny_call_function room.depth (inK _ _ lk) rfl S.co S.gen rfl (PySem.W.codeRec_of inK hcd)
  apply bind
  apply wpAny_newFunctionEnv_cells S.kind kinds
  intro env he s1 x1
  subst he
  refine ⟨nolim.keeps x1.toInCall.keep, codeAny_func ?_⟩
  obtain ⟨t, ht, q0⟩ := hb cd A outer s H vs Q E p (room.deeper _) hsp
  have I := L2H.inv_startH (CX := CX0) (P := P) (mg := mg) (E := E) S pin e0 (len _ _ _ _ _ hsp) r x1
  apply wpAny_mono (ht.run [] s1 (start N vs) H _ I q0)
  · intro fl s' hs
    cases fl with
    | ret u => obtain ⟨v, _, H', J, rv, z⟩ := hs; exact ⟨v, H', J.os, J.bare, J.base, J.hok, rv, z⟩
    | next => obtain ⟨_, H', J, z⟩ := hs; exact ⟨.non, H', J.os, J.bare, J.base, J.hok, rfl, z⟩
    | brk => obtain ⟨_, _, _, z⟩ := hs; exact z.elim
    | cont => obtain ⟨_, _, _, z⟩ := hs; exact z.elim
  · intro e s' hs
    exact hs
/-- such a def told by its name -/
structure PinOkD (P : Program) (w : World) (K : PySem.W.Frag) (mg : Str → Option Value) (base : Heap) (k : Nat) (x : Str) (ps : List Str) (sp : Addr × Obj → Sp) : Prop where
  gl : mg x = some (.ref (He.ga K x))
  kp : PySem.W.keepIn K (.ref (He.ga K x)) = true
  ex : ∃ fd, FnPin P w K mg base k (He.ga K x) fd ps sp ∧ Binds K fd ps []
theorem pindef_of {P : Program} {w : World} {K : PySem.W.Frag} {mg : Str → Option Value} {base : Heap} {k : Nat} {x : Str} {ps : List Str} {sp : Addr × Obj → Sp} {st : Stmt} (d : ∃ fd, FnT K x st fd) (g : mg x = some (.ref (He.ga K x)))
    (hb : ∀ (kV doc pm : Value) (an : Option Addr) (cdv ct : Value) (us : List Value), us.length = ps.length → bindArgs (PySem.W.fnOf x x (defArgs st) (defBody st) (defScope st) .none kV doc pm an cdv ct) ⟨us, []⟩ = pure (ps.zip us))
    (h : ∀ fd, FnT K x st fd → FnPin P w K mg base k (He.ga K x) fd ps sp) : PinOkD P w K mg base k x ps sp := by
  obtain ⟨fd, F⟩ := d
  exact ⟨g, F.kp, fd, h fd F, F.bindsN hb⟩
def tCallP (sp : Addr × Obj → Sp) (q : Addr × Obj) (E : XK) (t : TA) : TE := fun σ H Q => t σ H fun vs H1 => sp q vs H1 Q E
theorem pe_callP {X : Cx} {k : Nat} {x : Str} {ps : List Str} {sp : Addr × Obj → Sp} {E : XK} {e : Expr} {es : List Expr} {t : TA} {p pos : Pos} {q : Addr × Obj} (D : PinOkD X.prog X.w X.K X.mg X.base k x ps sp) (hr : L2H.RoomH k X.A) (hq : q ∈ X.pn) (hg : Gl X x) (ha : PA X (e :: es) t)
    (hdb : (x == ("__debug__" : Str)) = false := by decide) (he : starEach (e :: es) X.env = (false, eval e X.env) :: starEach es X.env := by rfl) (hpl : (backTo pos (starEach es X.env)).any (·.1) = false := by rfl) :
    PE X (.Call (.Name x p) (e :: es) [] pos) (tCallP sp q E t) := by
  obtain ⟨fd, F, hb⟩ := D.ex
  constructor
  intro pins s σ H Q I h
  apply wpAny_Call_Name_kw
  apply ld_glob I hg D.gl _ hdb
  refine PySem.W.callWith_K (h₀ := X.base) I.ok.mod.kin D.kp (thn (ha.run pos pins s σ H _ I h) ?_) he hpl
  rintro us s1 ⟨vs, H1, I1, r, z⟩
  refine ⟨I1.kIn, ?_⟩
  have hl : us.length = ps.length := r.length ▸ F.len _ _ _ _ _ z
  have b := hb s1 us I1.kIn (by rw [List.append_nil]; exact hl)
  rw [List.append_nil] at b
  obtain ⟨p1, p2, p3, p4, p5⟩ := I1.pin q (List.mem_append_left _ hq)
  have pin : L2H.PinOk X.stack H1 s1 q := by
    refine ⟨p1, p2, fun hm => ?_, p5⟩
    cases List.mem_cons.mp (I1.stkSub q.1 hm) with
    | inl z => exact p3 z
    | inr z => exact p4 z
  apply wpAny_call
  apply codeAny_mono (F.run X.A X.stack s1 H1 ⟨us, []⟩ us vs Q E q hr pin I1.env0 b r z)
  intro rr s' hq'
  cases rr with
  | error e => exact (show False from hq').elim
  | ok fl =>
    cases fl with
    | ret u => exact I1.after hq'
    | next => exact False.elim hq'
    | brk => exact False.elim hq'
    | cont => exact False.elim hq'
theorem roomH_mark {k : Nat} {A : Around} {v : Option Value} (r : Room k A) : L2H.RoomH k (A.mark v) := ⟨r.dp, r.un⟩
/-! ### isinstance of such an exception; count in a list of flat things -/
theorem call_isPin {X : Cx} {D : Addr} {q : Addr × Obj} (C : ExcC X.K D) (hz : Zc (.ref D) none q.2) (hf : ∃ vs, q.2.data = .fields vs) (hm : q ∈ X.pn) : CallR X (.builtin "isinstance") (rIsE X.K D q.1) := by
  intro pins s σ H xs us Q I r h
  obtain ⟨c, cv, b, rfl, hcv, e, z⟩ := h
  obtain ⟨u1, u2, rfl, r1, r2⟩ := vals2 r
  obtain rfl : u1 = Value.ref q.1 := r1
  obtain rfl := hcv _ r2
  have hget := (I.pin q (List.mem_append_left _ hm)).1
  obtain ⟨vs, hv⟩ := hf
  have J : PySem.W.InstAt s.heap q.1 q.2 D none := by
    obtain ⟨qa, oc, od, dt, sl⟩ := q
    obtain ⟨z1, z2⟩ := hz
    simp only at z1 z2 hv
    subst z1 z2 hv
    exact ⟨hget, rfl, rfl, trivial⟩
  refine PySem.W.kia_one (PySem.W.handS_kitx_exc C.hg C.hk C.hs C.hd C.ha C.hn C.ht C.hm) I.kIn J e (fun y => nomatch y) ?_
  exact fun tk => ⟨.bl b, H, I.kept (t' := tk) (fun _ _ y => y), rfl, z⟩
theorem countP_eqU {y : V} : ∀ {ys : List V} {us : List Value}, Vals ys us → ys.all flatV = true → us.countP (eqU y) = ys.countP fun z => eqV z y
  | [], _, r, _ => by cases r; rfl
  | z :: zs, _, r, f => by
    cases r with
    | cons r1 r2 =>
      rw [List.all_cons, Bool.and_eq_true] at f
      rw [List.countP_cons, List.countP_cons, countP_eqU r2 f.2, eqU_of r1 f.1]
def rCountF (K : PySem.W.Frag) : V → List V → Hp → VK → Prop := fun x xs H Q => ∃ (a : Addr) (ys : List V) (y : V), x = .ref a ∧ xs = [y] ∧ SqL K H a ys ∧ flatV y = true ∧ ys.all flatV = true ∧ Q (.int ((ys.countP fun z => eqV z y : Nat) : Int)) H
theorem mt_countF {X : Cx} : MtR X "list.count" (rCountF X.K) := by
  intro pins s σ H x xs v us Q I rx rxs h
  obtain ⟨a, ys, y, rfl, rfl, hs, fy, fys, q⟩ := h
  obtain rfl : v = Value.ref a := rx
  obtain ⟨u, rfl, ru⟩ := rxs.one
  obtain ⟨its, rv, ⟨⟨cls, dd, data, sl⟩, n, ho, hc, hdn, hd⟩, hlen⟩ := I.list hs
  simp only at hc hd
  subst hc hd
  refine call_meets PySem.F.slot_list_count ⟨_, ho, rfl⟩ PySem.F.entry_list_count (PySem.F.args_list_count_2 _ _) (SeqAt.list_countAt a its.toArray n dd sl u (eqU y)) ⟨ho, fun u' hu' => mem_eqAt ru fy rv fys u' (by simpa using hu'), ?_⟩
  have ec : its.toArray.toList.countP (eqU y) = ys.countP fun z => eqV z y := by simpa using countP_eqU rv fys
  exact ⟨.int ((ys.countP fun z => eqV z y : Nat) : Int), H, I.tok _, ⟨s.toks, by rw [← ec]⟩, q⟩
/-! ### the refusals: which class an exception is of -/
def kinds : List Str := ["NoOrder", "NoNumber", "NoRow", "NotUpDown", "NoPattern", "NoTree", "NoRing", "NoText", "NoDeed", "NoLine", "NoLoose", "NoFraction"]
def words : List Str := ["order", "number", "line of numbers", "updown", "pattern", "tree", "ring", "text", "deed"]
def words2 : List Str := ["line", "loose", "fraction"]
def kindsAt (j : Nat) : List V := [.bl (decide (0 = j)), .bl (decide (1 = j)), .bl (decide (2 = j))] ++ [.bl (decide (3 = j)), .bl (decide (4 = j)), .bl (decide (5 = j))] ++ [.bl (decide (6 = j)), .bl (decide (7 = j)), .bl (decide (8 = j))] ++ [.bl (decide (9 = j)), .bl (decide (10 = j)), .bl (decide (11 = j))]
theorem kinds_count : ∀ j, j < 12 → (kindsAt j).countP (fun z => eqV z (.bl true)) = 1 := by decide
theorem kinds_here : ∀ j, j < 12 → (kindsAt j)[j]? = some (.bl true) := by decide
theorem kinds_ahead : ∀ j, j < 12 → ∀ m, m < j → (kindsAt j)[m]? = some (.bl false) := by decide
theorem kinds_flat (j : Nat) : (kindsAt j).all flatV = true := rfl
structure ClassIs (K : PySem.W.Frag) (C : Addr) (j : Nat) : Prop where
  lt : j < 12
  exc : ExcC K C
  turn : PySem.W.kitOne K (.ref C) (.ref (He.ga K "TurnError")) = some true
  val : PySem.W.kitOne K (.ref C) (.type "ValueError") = some true
  caught : PySem.W.exmOne K (.ref C) (.ref (He.ga K "TurnError")) = some true
  each : ∀ i x, kinds[i]? = some x → PySem.W.kitOne K (.ref C) (.ref (He.ga K x)) = some (decide (i = j))
def excB (K : PySem.W.Frag) (D : Addr) : Bool := He.eqO (PySem.W.findIn K (.ref D) "__getattribute__") (some (some (.builtin "BaseException.__getattribute__"))) && (He.eqO (PySem.W.findIn K (.ref D) "__getattr__") (some none) && (decide (PySem.W.subIn K (.ref D) (.type "BaseException") = some true) &&
  (PySem.W.hasDictIn K D && (He.eqO (PySem.W.findIn K (.ref D) "__class__") (some (some (.builtin "object.__class__"))) && (He.eqO (PySem.W.specialIn K (.builtin "object.__class__") "__get__") (some (some (.builtin "getset_descriptor.__get__"))) && (decide (PySem.W.takesIn K (.builtin "object.__class__") = some true) && decide (PySem.W.mroIn K D (.type "object") = some true)))))))
theorem excB_ok {K : PySem.W.Frag} {D : Addr} (h : excB K D = true) : ExcC K D := by
  obtain ⟨h1, h⟩ := He.ba h
  obtain ⟨h2, h⟩ := He.ba h
  obtain ⟨h3, h⟩ := He.ba h
  obtain ⟨h4, h⟩ := He.ba h
  obtain ⟨h5, h⟩ := He.ba h
  obtain ⟨h6, h⟩ := He.ba h
  obtain ⟨h7, h8⟩ := He.ba h
  exact ⟨He.eqO_ok h1, He.eqO_ok h2, of_decide_eq_true h3, h4, He.eqO_ok h5, He.eqO_ok h6, of_decide_eq_true h7, of_decide_eq_true h8⟩
def classB (K : PySem.W.Frag) (j : Nat) (x : Str) : Bool := decide (j < 12) && (excB K (He.ga K x) && (decide (PySem.W.kitOne K (.ref (He.ga K x)) (.ref (He.ga K "TurnError")) = some true) && (decide (PySem.W.kitOne K (.ref (He.ga K x)) (.type "ValueError") = some true) && (decide (PySem.W.exmOne K (.ref (He.ga K x)) (.ref (He.ga K "TurnError")) = some true) &&
  (List.range 12).all fun i => decide (PySem.W.kitOne K (.ref (He.ga K x)) (.ref (He.ga K (kinds.getD i ""))) = some (decide (i = j)))))))
theorem classB_ok {K : PySem.W.Frag} {j : Nat} {x : Str} (h : classB K j x = true) : ClassIs K (He.ga K x) j := by
  obtain ⟨h1, h⟩ := He.ba h
  obtain ⟨h2, h⟩ := He.ba h
  obtain ⟨h3, h⟩ := He.ba h
  obtain ⟨h4, h⟩ := He.ba h
  obtain ⟨h5, h6⟩ := He.ba h
  refine ⟨of_decide_eq_true h1, excB_ok h2, of_decide_eq_true h3, of_decide_eq_true h4, of_decide_eq_true h5, fun i x' e => ?_⟩
  have hi : i < 12 := (List.getElem?_eq_some_iff.mp e).1
  have z := of_decide_eq_true (List.all_eq_true.mp h6 i (List.mem_range.mpr hi))
  have ex : kinds.getD i "" = x' := by rw [List.getD_eq_getElem?_getD, e]; rfl
  rw [ex] at z
  exact z
/-! ### a thing of whatever kind -/
def tyNames : List String := ["int", "bool", "NoneType", "str", "tuple", "list", "dict"]
theorem kit_int : ∀ ty ∈ tyNames, kitB ty "int" = some (ty == "int" || ty == "bool") := by decide +kernel
theorem kit_bool : ∀ ty ∈ tyNames, kitB ty "bool" = some (ty == "bool") := by decide +kernel
theorem kit_whole : ∀ ty ∈ tyNames, (ty == "int" || ty == "bool") = true → (!(ty == "bool")) = (ty == "int") := by decide
theorem kit_str : ∀ ty ∈ tyNames, kitB ty "str" = some (ty == "str") := by decide +kernel
theorem kit_tuple : ∀ ty ∈ tyNames, kitB ty "tuple" = some (ty == "tuple") := by decide +kernel
theorem kit_list : ∀ ty ∈ tyNames, kitB ty "list" = some (ty == "list") := by decide +kernel
/-- b: it is a whole number -/
structure Thing (K : PySem.W.Frag) (H : Hp) (x : V) (b : Bool) : Prop where
  ex : ∃ ty, TyX K H x (.type ty) ∧ ty ∈ tyNames ∧ (ty == "int") = b
  int : b = true → ∃ i, x = .int i
  non : b = false → ∀ i, x ≠ .int i
theorem thing_int {K : PySem.W.Frag} {H : Hp} (i : Int) : Thing K H (.int i) true := ⟨⟨"int", .base (.int i), by decide, rfl⟩, fun _ => ⟨i, rfl⟩, fun z => nomatch z⟩
theorem thing_bl {K : PySem.W.Frag} {H : Hp} (c : Bool) : Thing K H (.bl c) false := ⟨⟨"bool", .base (.bl c), by decide, rfl⟩, (fun z => nomatch z), fun _ _ z => nomatch z⟩
theorem thing_non {K : PySem.W.Frag} {H : Hp} : Thing K H .non false := ⟨⟨"NoneType", .base .non, by decide, rfl⟩, (fun z => nomatch z), fun _ _ z => nomatch z⟩
theorem thing_str {K : PySem.W.Frag} {H : Hp} (x : Str) : Thing K H (.str x) false := ⟨⟨"str", .base (.str x), by decide, rfl⟩, (fun z => nomatch z), fun _ _ z => nomatch z⟩
theorem thing_tup {K : PySem.W.Frag} {H : Hp} {a : Addr} {xs : List V} (e : H a = some (.tup xs)) : Thing K H (.ref a) false := ⟨⟨"tuple", .base (.tup e), by decide, rfl⟩, (fun z => nomatch z), fun _ _ z => nomatch z⟩
theorem thing_lst {K : PySem.W.Frag} {H : Hp} {a : Addr} {xs : List V} (e : H a = some (.lst xs)) : Thing K H (.ref a) false := ⟨⟨"list", .base (.lst e), by decide, rfl⟩, (fun z => nomatch z), fun _ _ z => nomatch z⟩
theorem thing_dic {K : PySem.W.Frag} {H : Hp} {a : Addr} {xs : List (Key × V)} (e : H a = some (.dK xs)) : Thing K H (.ref a) false := ⟨⟨"dict", .base (.dK e), by decide, rfl⟩, (fun z => nomatch z), fun _ _ z => nomatch z⟩
def NumOk (x : V) (a b : Int) : Prop := ∃ i, x = .int i ∧ a ≤ i ∧ i ≤ b
/-! ### data -/
def intsD (ns : List Int) : PyData := .list (ns.map PyData.int)
theorem dp_ints {K : PySem.W.Frag} {H : Hp} : ∀ ns : List Int, DpAll K H (ns.map V.int) (ns.map PyData.int)
  | [] => .nil
  | n :: r => .cons (.int n) (dp_ints r)
theorem dp_list {K : PySem.W.Frag} {H : Hp} {a : Addr} {ns : List Int} (h : SqL K H a (ns.map V.int)) : Dp K H (.ref a) (intsD ns) := .lst h (dp_ints ns)
theorem lay_ints : ∀ ns : List Int, PyData.canLayAll0 (ns.map PyData.int) = true
  | [] => rfl
  | n :: r => by
    show (PyData.canLay0 (.int n) && PyData.canLayAll0 (r.map PyData.int)) = true
    rw [lay_ints r]; rfl
theorem depth_ints : ∀ ns : List Int, PyData.depthAll (ns.map PyData.int) = 0
  | [] => rfl
  | n :: r => by
    show max (PyData.depth (.int n)) (PyData.depthAll (r.map PyData.int)) = 0
    rw [depth_ints r]; rfl
theorem shaped_ints (ns : List Int) : SeqAt.shaped (intsD ns) = true := by
  show ((PyData.canLayAll0 (ns.map PyData.int)) && decide (PyData.depthAll (ns.map PyData.int) + 1 ≤ 64)) = true
  rw [lay_ints, depth_ints]; rfl
theorem eqv_ints (ns : List Int) : PyData.eqv (intsD ns) (intsD ns) = true := SeqAt.eqv_refl _ (show PyData.canLay0 (intsD ns) = true from lay_ints ns)
def rowsD (rs : List (List Int)) : PyData := .list (rs.map intsD)
theorem lay_rows : ∀ rs : List (List Int), PyData.canLayAll0 (rs.map intsD) = true
  | [] => rfl
  | n :: r => by
    show (PyData.canLayAll0 (n.map PyData.int) && PyData.canLayAll0 (r.map intsD)) = true
    rw [lay_rows r, lay_ints]; rfl
theorem depth_rows : ∀ rs : List (List Int), PyData.depthAll (rs.map intsD) ≤ 1
  | [] => Nat.zero_le _
  | n :: r => by
    show max (PyData.depthAll (n.map PyData.int) + 1) (PyData.depthAll (r.map intsD)) ≤ 1
    have z := depth_rows r
    rw [depth_ints]; omega
theorem shaped_rows (rs : List (List Int)) : SeqAt.shaped (rowsD rs) = true := by
  show ((PyData.canLayAll0 (rs.map intsD)) && decide (PyData.depthAll (rs.map intsD) + 1 ≤ 64)) = true
  have z := depth_rows rs
  rw [lay_rows, decide_eq_true (by omega)]; rfl
theorem eqv_rows (rs : List (List Int)) : PyData.eqv (rowsD rs) (rowsD rs) = true := SeqAt.eqv_refl _ (show PyData.canLay0 (rowsD rs) = true from lay_rows rs)
/-- _law_class: the word of the class that the exception is of -/
def spClass (K : PySem.W.Frag) (p : Addr × Obj) : Sp := fun vs H Q _ => vs = [.ref p.1] ∧ ∃ C j wd, Zc (.ref C) none p.2 ∧ (∃ fs, p.2.data = .fields fs) ∧ ClassIs K C j ∧ (words ++ words2)[j]? = some wd ∧ ∀ H', Same H H' → Q (.str wd) H'
/-! ### the promises that many laws share -/
def spWhole (K : PySem.W.Frag) : Sp := fun vs H Q _ => ∃ x b, vs = [x] ∧ Thing K H x b ∧ Q (.bl b) H
/-- the message's parts are short -/
def Short (a : Int) : Prop := a.natAbs.log2 < 1920 ∧ (Str.empty ++ ("the number is not from " : Str) ++ (toString a : Str)).length ≤ sizeLine ∧ (Str.empty ++ ("the number is not from " : Str) ++ (toString a : Str) ++ (" to " : Str)).length ≤ sizeLine
def spNeed (K : PySem.W.Frag) (C : Addr) : Sp := fun vs H Q E => ∃ x a b z, vs = [x, .int a, .int b] ∧ Short a ∧ (b.natAbs.log2 < 1920 ∧ (Str.empty ++ ("the number is not from " : Str) ++ (toString a : Str) ++ (" to " : Str) ++ (toString b : Str)).length ≤ sizeLine) ∧ Thing K H x z ∧
  (NumOk x a b → Q .non H) ∧ (¬ NumOk x a b → E (.ref C) none H)
def spCellAt (K : PySem.W.Frag) : Sp := fun vs H Q _ => ∃ (a : Addr) (ns : List Int) (i : Nat), vs = [.ref a, .int (i : Int)] ∧ SqL K H a (ns.map V.int) ∧ ∀ c, Q (.int c) H
def spDraw : Sp := fun vs H Q _ => ∃ c k b : Int, vs = [.int c, .int k, .int b] ∧ 0 ≤ k ∧ k < 1048576 ∧ 0 < b ∧ b < 1073741824 ∧ ∀ r, 0 ≤ r → r < b → Q (.int r) H
def spNoNumber (K : PySem.W.Frag) : Sp := fun vs H Q _ => ∃ c k a b : Int, vs = [.int c, .int k, .int a, .int b] ∧ 0 ≤ k ∧ k < 1048576 ∧ -1000 ≤ a ∧ a ≤ 1000 ∧ a ≤ b ∧ b < 10 ^ 30 ∧ ∀ v z H', Same H H' → Thing K H' v z → ¬ NumOk v a b → Q v H'
/-! ### x(lambda: ..), where x tells the word of what is raised -/
def TRef (K : PySem.W.Frag) : (XK → Hp → VK → Prop) → Hp → VK → Prop := fun tl H Q => tl (fun cls d H' => d = none ∧ ∃ C j wd, cls = .ref C ∧ ClassIs K C j ∧ (words ++ words2)[j]? = some wd ∧ ∀ H'', Same H' H'' → Q (.str wd) H'') H (fun _ H' => ∃ v, some (some (V.str "told")) = some (some v) ∧ Q v H')
def tExc (K : PySem.W.Frag) (i : Nat) (a : Addr) (cls : Value) (d : Option Addr) : TE := fun σ H Q => σ[i]? = some (some (.ref a)) ∧ d = none ∧ ∃ C j wd, cls = .ref C ∧ ClassIs K C j ∧ (words ++ words2)[j]? = some wd ∧ ∀ H', Same H H' → Q (.str wd) H'
theorem takes_len {X : Cx} {W : WX} (t : Takes X W) : Takes X (fun c d σ H => σ.length = X.N.length → W c d σ H) := by
  rintro u s' ⟨a, B, sI, pins, σ, H, cls, d, e, I, nb, up, sky, na, os, ag, hw⟩
  exact t u s' ⟨a, B, sI, pins, σ, H, cls, d, e, I, nb, up, sky, na, os, ag, hw I.len⟩
/-! ### a call of a local name that holds one of several defs, which may raise -/
structure HeldX (P : Program) (w : World) (K : PySem.W.Frag) (mg : Str → Option Value) (base : Heap) (k : Nat) (sp : Sp) (f : Addr) : Prop where
  kp : PySem.W.keepIn K (.ref f) = true
  ex : ∃ fd ps, FnOk P w K mg base (L2.CX P w) k f fd ps sp ∧ Binds K fd ps []
theorem held_of {P : Program} {w : World} {K : PySem.W.Frag} {mg : Str → Option Value} {base : Heap} {k j : Nat} {x : Str} {ps : List Str} {sp sp' : Sp} (D : DefOk P w K mg base (L2.CX P w) k x ps sp) (hj : k ≤ j) (h : ∀ vs H Q E, sp' vs H Q E → sp vs H Q E) : HeldX P w K mg base j sp' (He.ga K x) := by
  obtain ⟨fd, F, b⟩ := D.ex
  exact ⟨D.kp, fd, ps, (F.mono hj).imp h, b⟩
def tCallM (i : Nat) (fs : List Addr) (sp : Sp) (E : XK) (t : TA) : TE := fun σ H Q => ∃ f, σ[i]? = some (some (.ref f)) ∧ f ∈ fs ∧ t σ H fun vs H1 => sp vs H1 Q E
theorem pe_callM {X : Cx} {k j i : Nat} {fs : List Addr} {sp : Sp} {E : XK} {x : Str} {p pos : Pos} {e : Expr} {es : List Expr} {t : TA} (F : ∀ f ∈ fs, HeldX X.prog X.w X.K X.mg X.base k sp f) (hr : Room j X.A) (hN : X.N[i]? = some x) (hv : Vis X.env.scope x) (hx : Passes (L2.CX X.prog X.w) X E) (ha : PA X (e :: es) t)
    (hj : k ≤ j := by decide) (hdb : (x == ("__debug__" : Str)) = false := by decide) (hcd : (x == ("__classdict__" : Str)) = false := by decide) (he : starEach (e :: es) X.env = (false, eval e X.env) :: starEach es X.env := by rfl) (hpl : (backTo pos (starEach es X.env)).any (·.1) = false := by rfl) :
    PE X (.Call (.Name x p) (e :: es) [] pos) (tCallM i fs sp E t) := by
  constructor
  rintro pins s σ H Q I ⟨f, h1, h2, h3⟩
  obtain ⟨kp, fd, ps, G, b⟩ := F f h2
  refine (pe_callL (f := f) (dvs := []) (ds := []) G (hr.mono hj) hN hv kp b .nil hx ha hdb hcd he hpl).run pins s σ H Q I ⟨h1, ?_⟩
  have e0 : (fun (vs : List V) (H1 : Hp) => sp (vs ++ []) H1 Q E) = fun vs H1 => sp vs H1 Q E := by
    funext vs H1; rw [List.append_nil]
  show t σ H (fun vs H1 => sp (vs ++ []) H1 Q E)
  rw [e0]
  exact h3
/-! ### things stay -/
theorem tyx_ext {K : PySem.W.Frag} {H H' : Hp} {x : V} {t : Value} (e : LamX.ExtN H H') (h : TyX K H x t) : TyX K H' x t := by
  cases h with
  | base b =>
    cases b with
    | non => exact .base .non
    | bl c => exact .base (.bl c)
    | int i => exact .base (.int i)
    | str y => exact .base (.str y)
    | flt y => exact .base (.flt y)
    | lst z => exact .base (.lst (e _ _ z fun _ q => by cases q))
    | frz z => exact .base (.frz (e _ _ z fun _ q => by cases q))
    | tup z => exact .base (.tup (e _ _ z fun _ q => by cases q))
    | dK z => exact .base (.dK (e _ _ z fun _ q => by cases q))
    | dT z => exact .base (.dT (e _ _ z fun _ q => by cases q))
    | ins z cl ha hn htk hm => exact .base (.ins (e _ _ z fun _ q => by cases q) cl ha hn htk hm)
  | byt b => exact .byt b
  | set z => exact .set (e _ _ z fun _ q => by cases q)
  | kList z c => exact .kList z c
  | kTuple z c => exact .kTuple z c
  | kDict z c => exact .kDict z c
  | fTuple z => exact .fTuple (e _ _ z fun _ q => by cases q)
  | fDict z => exact .fDict (e _ _ z fun _ q => by cases q)
theorem thing_ext {K : PySem.W.Frag} {H H' : Hp} {x : V} {b : Bool} (e : LamX.ExtN H H') (h : Thing K H x b) : Thing K H' x b := by
  obtain ⟨ty, z, m, q⟩ := h.ex
  exact ⟨⟨ty, tyx_ext e z, m, q⟩, h.int, h.non⟩
def spBad (K : PySem.W.Frag) (C : Addr) (a b : Int) : Sp := fun vs H _ E => ∃ x z, vs = [x] ∧ Thing K H x z ∧ ¬ NumOk x a b ∧ E (.ref C) none H
def spLaw (K : PySem.W.Frag) (Pt : Addr) : Sp := fun vs H Q _ => ∃ (a : Addr) (ns : List Int), vs = [.ref a] ∧ ns.length ≤ 63 ∧ SqL K H a (ns.map V.int) ∧ H Pt = some (.tbl #[]) ∧ ∀ H', Q (.bl true) H'
theorem dp_refs {K : PySem.W.Frag} {H : Hp} : ∀ {rs : List Addr} {ds : List (List Int)}, rs.length = ds.length → (∀ (i : Nat) q d, rs[i]? = some q → ds[i]? = some d → SqL K H q (d.map V.int)) → DpAll K H (rs.map V.ref) (ds.map intsD)
  | [], [], _, _ => .nil
  | q :: rs, d :: ds, hl, h => .cons (dp_list (h 0 q d rfl rfl)) (dp_refs (by simpa using hl) fun i q' d' a b => h (i + 1) q' d' a b)
theorem dp_rows {K : PySem.W.Frag} {H : Hp} {a : Addr} {rs : List Addr} {ds : List (List Int)} (e : SqL K H a (rs.map V.ref)) (hl : rs.length = ds.length) (h : ∀ (i : Nat) q d, rs[i]? = some q → ds[i]? = some d → SqL K H q (d.map V.int)) : Dp K H (.ref a) (rowsD ds) := .lst e (dp_refs hl h)
theorem kit_ll {K : PySem.W.Frag} : PySem.W.kitOne K (.type "list") (.type "list") = some true := kit_ty (by decide +kernel)
theorem kit_ib {K : PySem.W.Frag} : PySem.W.kitOne K (.type "int") (.type "bool") = some false := kit_ty (by decide +kernel)
theorem ne_same {K : PySem.W.Frag} {H : Hp} {x y : V} {d : PyData} {Q : VK} (h1 : Dp K H x d) (h2 : Dp K H y d) (sh : SeqAt.shaped d = true) (ev : PyData.eqv d d = true) (q : Q (.bl false) H) : rNeD K x y H Q := ⟨d, d, h1, h2, sh, sh, by rw [ev]; exact q⟩
theorem eq_same {K : PySem.W.Frag} {H : Hp} {x y : V} {d : PyData} {Q : VK} (h1 : Dp K H x d) (h2 : Dp K H y d) (sh : SeqAt.shaped d = true) (ev : PyData.eqv d d = true) (q : Q (.bl true) H) : rEqD K x y H Q := ⟨d, d, h1, h2, sh, sh, by rw [ev]; exact q⟩
theorem neS_same {z : Str} {H : Hp} {Q : VK} (q : Q (.bl false) H) : rNe (.str z) (.str z) H Q := ⟨rfl, by rw [decide_eq_true rfl]; exact q⟩
theorem ne_int {i : Int} {H : Hp} {Q : VK} (q : Q (.bl false) H) : rNe (.int i) (.int i) H Q := ⟨rfl, by rw [decide_eq_true rfl]; exact q⟩
theorem sz' {n : Nat} (h : n ≤ 1000) : n ≤ sizeLine := Nat.le_trans h (by decide)
end Up

/-! the triangle's rows as plain lists -/
namespace Up
def sumsTo (ns : List Int) (i : Nat) : List Int := (List.range (i + 1)).map fun j => (ns.take j).sum
def nextRow (ns : List Int) : List Int := (sumsTo ns ns.length).reverse
def rowN : Nat → List Int
  | 0 => [1]
  | k + 1 => nextRow (rowN k)
theorem sumsTo_zero (ns : List Int) : sumsTo ns 0 = [0] := rfl
theorem sumsTo_succ (ns : List Int) (i : Nat) : sumsTo ns (i + 1) = sumsTo ns i ++ [(ns.take (i + 1)).sum] := by
  unfold sumsTo
  rw [List.range_succ (n := i + 1), List.map_append] <;> rfl
theorem sumsTo_len (ns : List Int) (i : Nat) : (sumsTo ns i).length = i + 1 := by
  unfold sumsTo
  rw [List.length_map, List.length_range]
theorem sumsTo_last (ns : List Int) : ∀ i, ∃ l, sumsTo ns i = l ++ [(ns.take i).sum]
  | 0 => ⟨[], rfl⟩
  | i + 1 => ⟨_, sumsTo_succ ns i⟩
theorem nextRow_len (ns : List Int) : (nextRow ns).length = ns.length + 1 := by
  unfold nextRow
  rw [List.length_reverse, sumsTo_len]
theorem rowN_len : ∀ k, (rowN k).length = k + 1
  | 0 => rfl
  | k + 1 => by
    show (nextRow (rowN k)).length = _
    rw [nextRow_len, rowN_len k]
def fallsL (ns : List Int) : List Int := (List.range (ns.length - 1)).map fun j => ns.getD j 0 - ns.getD (j + 1) 0
def tabRow (j : Nat) : List Int := if (j + 1) % 2 = 0 then (rowN j).reverse else rowN j
theorem tabRow_len (j : Nat) : (tabRow j).length = j + 1 := by
  unfold tabRow
  split
  · rw [List.length_reverse, rowN_len]
  · exact rowN_len j
end Up

/-! how many up-downs there are, by choosing the greatest number's place -/
namespace Up
def twiceAt (f c : List Int) (n : Nat) : Int := ((List.range (n + 1)).map fun j => c.getD j 0 * f.getD j 0 * f.getD (n - j) 0).sum
def nextC (c : List Int) (n : Nat) : List Int := [1] ++ ((List.range n).map fun j => c.getD j 0 + c.getD (j + 1) 0) ++ [1]
def dueAt : Nat → List Int × List Int
  | 0 => ([1, 1], [1, 1])
  | i + 1 => ((dueAt i).1 ++ [twiceAt (dueAt i).1 (dueAt i).2 (i + 1) / 2], nextC (dueAt i).2 (i + 1))
set_option maxRecDepth 100000 in
theorem many_due : ((List.range 60).map fun n => (rowN n).sum) = (dueAt 59).1.drop 1 := by decide +kernel
end Up
namespace Up
set_option maxRecDepth 100000 in
theorem due_small : ((List.range 60).all fun i => ((dueAt i).1.all fun x => decide (x.natAbs < 2 ^ 400)) && (dueAt i).2.all fun x => decide (x.natAbs < 2 ^ 400)) = true := by decide +kernel
theorem due_len : ∀ i, (dueAt i).1.length = i + 2 ∧ (dueAt i).2.length = i + 2
  | 0 => ⟨rfl, rfl⟩
  | i + 1 => by
    obtain ⟨h1, h2⟩ := due_len i
    refine ⟨?_, ?_⟩
    · show ((dueAt i).1 ++ [_]).length = _
      rw [List.length_append, h1]; rfl
    · show (nextC (dueAt i).2 (i + 1)).length = _
      unfold nextC
      rw [List.length_append, List.length_append, List.length_map, List.length_range]
      show 1 + (i + 1) + 1 = _
      omega
theorem due_lt {i : Nat} (h : i < 60) : (∀ x ∈ (dueAt i).1, x.natAbs < 2 ^ 400) ∧ ∀ x ∈ (dueAt i).2, x.natAbs < 2 ^ 400 := by
  have z := List.all_eq_true.mp due_small i (List.mem_range.mpr h)
  rw [Bool.and_eq_true] at z
  exact ⟨fun x hx => of_decide_eq_true (List.all_eq_true.mp z.1 x hx), fun x hx => of_decide_eq_true (List.all_eq_true.mp z.2 x hx)⟩
theorem many_due_at {n : Nat} (h : n < 60) : ((dueAt 59).1.drop 1)[n]? = some (rowN n).sum := by
  rw [← many_due, List.getElem?_map, List.getElem?_range h]; rfl
theorem many_due_take {n : Nat} (h : n ≤ 60) : ((dueAt 59).1.drop 1).take n = (List.range n).map fun j => (rowN j).sum := by
  rw [← many_due, ← List.map_take]
  congr 1
  rw [List.take_range, Nat.min_eq_left h]
end Up

set_option Elab.async false
set_option linter.all false
set_option maxRecDepth 100000
set_option maxHeartbeats 4000000
namespace K12
open PySem PySem.Spec PyProof.Rows L2 Up
abbrev pw : Program := PySem.Challenge.pw_upanddowns_k12_how_many_up_downs
def topS (i : Nat) : Stmt := PySem.Challenge.pw_upanddowns_k12_how_many_up_downs.main.body.getD i (.Pass ⟨0, 0, 0, 0⟩)
abbrev S_is_whole : Stmt := topS 15
abbrev N_is_whole : List Str := ["thing"]
theorem sc_is_whole : FnScope N_is_whole ["thing"] (defScope S_is_whole) := ⟨rfl, rfl, rfl, by decide +kernel, rfl, by decide +kernel, by decide +kernel⟩
abbrev S_need_number : Stmt := topS 16
abbrev N_need_number : List Str := ["thing", "least", "most"]
theorem sc_need_number : FnScope N_need_number ["thing", "least", "most"] (defScope S_need_number) := ⟨rfl, rfl, rfl, by decide +kernel, rfl, by decide +kernel, by decide +kernel⟩
abbrev S_row_behind : Stmt := topS 19
abbrev N_row_behind : List Str := ["ahead", "sums", "number"]
theorem sc_row_behind : FnScope N_row_behind ["ahead"] (defScope S_row_behind) := ⟨rfl, rfl, rfl, by decide +kernel, rfl, by decide +kernel, by decide +kernel⟩
abbrev S_rows_to : Stmt := topS 20
abbrev N_rows_to : List Str := ["n", "rows"]
theorem sc_rows_to : FnScope N_rows_to ["n"] (defScope S_rows_to) := ⟨rfl, rfl, rfl, by decide +kernel, rfl, by decide +kernel, by decide +kernel⟩
abbrev S_row : Stmt := topS 21
abbrev N_row : List Str := ["n"]
theorem sc_row : FnScope N_row ["n"] (defScope S_row) := ⟨rfl, rfl, rfl, by decide +kernel, rfl, by decide +kernel, by decide +kernel⟩
abbrev S_many : Stmt := topS 22
abbrev N_many : List Str := ["n"]
theorem sc_many : FnScope N_many ["n"] (defScope S_many) := ⟨rfl, rfl, rfl, by decide +kernel, rfl, by decide +kernel, by decide +kernel⟩
abbrev S_all_many : Stmt := topS 23
abbrev N_all_many : List Str := ["n", "numbers"]
theorem sc_all_many : FnScope N_all_many ["n"] (defScope S_all_many) := ⟨rfl, rfl, rfl, by decide +kernel, rfl, by decide +kernel, by decide +kernel⟩
abbrev S_law_cell_at : Stmt := topS 25
abbrev N_law_cell_at : List Str := ["_law_script", "_law_k"]
theorem sc_law_cell_at : FnScope N_law_cell_at ["_law_script", "_law_k"] (defScope S_law_cell_at) := ⟨rfl, rfl, rfl, by decide +kernel, rfl, by decide +kernel, by decide +kernel⟩
abbrev S_law_draw : Stmt := topS 26
abbrev N_law_draw : List Str := ["_law_cell", "_law_k", "_law_bound", "_law_left", "_law_j", "_law_stir"]
theorem sc_law_draw : FnScope N_law_draw ["_law_cell", "_law_k", "_law_bound"] (defScope S_law_draw) := ⟨rfl, rfl, rfl, by decide +kernel, rfl, by decide +kernel, by decide +kernel⟩
abbrev S_law_no_number : Stmt := topS 27
abbrev N_law_no_number : List Str := ["_law_cell", "_law_at", "_law_least", "_law_most", "_law_some"]
theorem sc_law_no_number : FnScope N_law_no_number ["_law_cell", "_law_at", "_law_least", "_law_most"] (defScope S_law_no_number) := ⟨rfl, rfl, rfl, by decide +kernel, rfl, by decide +kernel, by decide +kernel⟩
abbrev S_law_class : Stmt := topS 28
abbrev N_law_class : List Str := ["_law_error", "_law_kinds", "_law_words"]
theorem sc_law_class : FnScope N_law_class ["_law_error"] (defScope S_law_class) := ⟨rfl, rfl, rfl, by decide +kernel, rfl, by decide +kernel, by decide +kernel⟩
abbrev S_law_refused : Stmt := topS 29
abbrev N_law_refused : List Str := ["_law_call", "_law_word", "_law_error"]
theorem sc_law_refused : FnScope N_law_refused ["_law_call"] (defScope S_law_refused) := ⟨rfl, rfl, rfl, by decide +kernel, rfl, by decide +kernel, by decide +kernel⟩
abbrev S_law_all_due : Stmt := topS 30
abbrev N_law_all_due : List Str := ["_law_most", "_law_found", "_law_chosen", "_law_n", "_law_twice", "_law_j"]
theorem sc_law_all_due : FnScope N_law_all_due ["_law_most"] (defScope S_law_all_due) := ⟨rfl, rfl, rfl, by decide +kernel, rfl, by decide +kernel, by decide +kernel⟩
abbrev S_law : Stmt := topS 31
abbrev N_law : List Str := ["_law_script", "_law_due", "_law_k", "_law_cell", "_law_n", "_law_turn", "_law_found", "_law_bad", "_law_call", "_law_one"]
theorem sc_law : FnScope N_law ["_law_script"] (defScope S_law) := ⟨rfl, rfl, rfl, by decide +kernel, rfl, by decide +kernel, by decide +kernel⟩
structure Txt (K : PySem.W.Frag) (mg : Str → Option Value) : Prop where
  d_is_whole : ∃ fd, FnT K "is_whole" S_is_whole fd
  g_is_whole : mg "is_whole" = some (.ref (He.ga K "is_whole"))
  d_need_number : ∃ fd, FnT K "need_number" S_need_number fd
  g_need_number : mg "need_number" = some (.ref (He.ga K "need_number"))
  d_row_behind : ∃ fd, FnT K "row_behind" S_row_behind fd
  g_row_behind : mg "row_behind" = some (.ref (He.ga K "row_behind"))
  d_rows_to : ∃ fd, FnT K "rows_to" S_rows_to fd
  g_rows_to : mg "rows_to" = some (.ref (He.ga K "rows_to"))
  d_row : ∃ fd, FnT K "row" S_row fd
  g_row : mg "row" = some (.ref (He.ga K "row"))
  d_many : ∃ fd, FnT K "many" S_many fd
  g_many : mg "many" = some (.ref (He.ga K "many"))
  d_all_many : ∃ fd, FnT K "all_many" S_all_many fd
  g_all_many : mg "all_many" = some (.ref (He.ga K "all_many"))
  d_law_cell_at : ∃ fd, FnT K "_law_cell_at" S_law_cell_at fd
  g_law_cell_at : mg "_law_cell_at" = some (.ref (He.ga K "_law_cell_at"))
  d_law_draw : ∃ fd, FnT K "_law_draw" S_law_draw fd
  g_law_draw : mg "_law_draw" = some (.ref (He.ga K "_law_draw"))
  d_law_no_number : ∃ fd, FnT K "_law_no_number" S_law_no_number fd
  g_law_no_number : mg "_law_no_number" = some (.ref (He.ga K "_law_no_number"))
  d_law_class : ∃ fd, FnT K "_law_class" S_law_class fd
  g_law_class : mg "_law_class" = some (.ref (He.ga K "_law_class"))
  d_law_refused : ∃ fd, FnT K "_law_refused" S_law_refused fd
  g_law_refused : mg "_law_refused" = some (.ref (He.ga K "_law_refused"))
  d_law_all_due : ∃ fd, FnT K "_law_all_due" S_law_all_due fd
  g_law_all_due : mg "_law_all_due" = some (.ref (He.ga K "_law_all_due"))
  d_law : ∃ fd, FnT K "law" S_law fd
  g_law : mg "law" = some (.ref (He.ga K "law"))
  n_isinstance : mg "isinstance" = none
  n_int : mg "int" = none
  n_bool : mg "bool" = none
  n_len : mg "len" = none
  n_sum : mg "sum" = none
  n_range : mg "range" = none
  n_str : mg "str" = none
  n_max : mg "max" = none
  n_min : mg "min" = none
  n_list : mg "list" = none
  n_ValueError : mg "ValueError" = none
  c_MOST_ROWS : ∃ t, mg "MOST_ROWS" = some (.int 60 t)
  g_TurnError : mg "TurnError" = some (.ref (He.ga K "TurnError"))
  g_NoOrder : mg "NoOrder" = some (.ref (He.ga K "NoOrder"))
  g_NoNumber : mg "NoNumber" = some (.ref (He.ga K "NoNumber"))
  g_NoRow : mg "NoRow" = some (.ref (He.ga K "NoRow"))
  g_NotUpDown : mg "NotUpDown" = some (.ref (He.ga K "NotUpDown"))
  g_NoPattern : mg "NoPattern" = some (.ref (He.ga K "NoPattern"))
  g_NoTree : mg "NoTree" = some (.ref (He.ga K "NoTree"))
  g_NoLoose : mg "NoLoose" = some (.ref (He.ga K "NoLoose"))
  g_NoRing : mg "NoRing" = some (.ref (He.ga K "NoRing"))
  g_NoFraction : mg "NoFraction" = some (.ref (He.ga K "NoFraction"))
  g_NoText : mg "NoText" = some (.ref (He.ga K "NoText"))
  g_NoDeed : mg "NoDeed" = some (.ref (He.ga K "NoDeed"))
  g_NoLine : mg "NoLine" = some (.ref (He.ga K "NoLine"))
  x_NoNumber : PySem.W.excIn K (He.ga K "NoNumber") He.veBase "ValueError.__new__" = true
  k_NoNumber : PySem.W.keepIn K (.ref (He.ga K "NoNumber")) = true
  b_NoNumber : PySem.W.subIn K (.ref (He.ga K "NoNumber")) (.type "BaseException") = some true
  t_NoNumber : PySem.W.typeIn K (.ref (He.ga K "NoNumber")) = some (.type "type")
  j_NoNumber : ClassIs K (He.ga K "NoNumber") 1
section
variable {P : Program} {w : World} {K : PySem.W.Frag} {mg : Str → Option Value} {base : Heap}
theorem ok_is_whole (T : Txt K mg) : DefOk P w K mg base CX0 1 "is_whole" ["thing"] (spWhole K) := by
  refine def_of T.d_is_whole T.g_is_whole (fun _ _ _ _ _ _ us hl => match us, hl with | [_], _ => rfl) fun fd F => ?_
  refine F.ok sc_is_whole (fun vs H Q E h => ?_) (fun cdv A outer s H vs Q E hr h => ?_)
  · obtain ⟨x, b, rfl, _⟩ := h; rfl
  · obtain ⟨x, b, rfl, hT, q⟩ := h
    obtain ⟨ty, hty, hm, hb⟩ := hT.ex
    refine ⟨_, PSs.nox (pss_one (ps_ret (pe_and (pe_callB (isiK K) (by rfl) T.n_isinstance (by decide +kernel) (pa_cons (pv 0) (pa_cons (pe_bltn (v := .ty "int") (u := .type "int") (by rfl) T.n_int (by decide +kernel) rfl) pa_nil))) (pe_one (pe_not (pe_callB (isiK K) (by rfl) T.n_isinstance (by decide +kernel) (pa_cons (pv 0) (pa_cons (pe_bltn (v := .ty "bool") (u := .type "bool") (by rfl) T.n_bool (by decide +kernel) rfl) pa_nil)))))))), ?_⟩
    refine ⟨_, rfl, _, _, _, _, _, rfl, .ty "int", hty, kit_ty (kit_int ty hm), _, rfl, ite2 (fun c => ?_) (fun c => ?_)⟩
    · refine ⟨_, rfl, _, _, _, _, _, rfl, .ty "bool", hty, kit_ty (kit_bool ty hm), _, rfl, ?_⟩
      have e : (!(ty == "bool")) = b := by
        rw [← hb]; exact kit_whole ty hm c
      rw [e]; exact q
    · have e : (ty == "int" || ty == "bool") = false := by simpa using c
      have e2 : b = false := by rw [← hb]; rw [Bool.or_eq_false_iff] at e; exact e.1
      rw [e2] at q; exact q

theorem ok_need_number (T : Txt K mg) : DefOk P w K mg base (L2.CX P w) 2 "need_number" ["thing", "least", "most"] (spNeed K (He.ga K "NoNumber")) := by
  have D_is_whole : DefOk P w K mg base CX0 1 "is_whole" ["thing"] (spWhole K) := ok_is_whole T
  refine def_of T.d_need_number T.g_need_number (fun _ _ _ _ _ _ us hl => match us, hl with | [_, _, _], _ => rfl) fun fd F => ?_
  refine F.ok sc_need_number (fun vs H Q E h => ?_) (fun cdv A outer s H vs Q E hr h => ?_)
  · obtain ⟨x, a, b, z, rfl, _⟩ := h; rfl
  · obtain ⟨x, a, b, z, rfl, ha, hb, hT, kY, kN⟩ := h
    refine ⟨_, (pss_cons (ps_if (pt_not (pt_val (pe_callD D_is_whole hr (by rfl) pass0 (pa_cons (pv 0) pa_nil)))) (pss_one (ps_raise rfl (takes_of rfl rfl rfl rfl) (pmk_own PySem.F.excBase_ValueError T.x_NoNumber T.g_NoNumber T.k_NoNumber (raises_own T.b_NoNumber T.t_NoNumber) (by exact rfl)))) pss_nil)
 (pss_one (ps_if (PW.pt (pw_or (pt_cmpR op_lt (pv 0) (pv 1) (nomark _)) (pw_or1 (pt_cmpR op_gt (pv 0) (pv 2) (nomark _))))) (pss_one (ps_raise rfl (takes_of rfl rfl rfl rfl) (SkE.pmk_own1 PySem.F.excBase_ValueError T.x_NoNumber T.g_NoNumber T.k_NoNumber (raises_own T.b_NoNumber T.t_NoNumber) (by exact rfl) (pe_joined (PJ.cons pe_str (PJ.cons (pe_fmt (pv 1)) (PJ.cons pe_str (PJ.cons (pe_fmt (pv 2)) PJ.nil)))))))) pss_nil))), ?_⟩
    refine ⟨_, rfl, x, z, rfl, hT, z, rfl, ?_⟩
    cases z with
    | false =>
      refine iteT ?_
      refine kN fun ⟨i, e, _⟩ => hT.non rfl i e
    | true =>
      refine iteF ?_
      obtain ⟨i, rfl⟩ := hT.int rfl
      refine ⟨_, rfl, _, rfl, _, _, rfl, rfl, _, rfl, ?_⟩
      have bad : ¬ NumOk (.int i) a b → _ := kN
      refine ite2 (fun c => ?_) (fun c => ?_)
      · refine iteT ?_
        refine ⟨_, rfl, by decide +kernel, _, rfl, .inr ⟨a, rfl, ha.1, _, rfl, ha.2.1, _, rfl, ha.2.2, _, rfl, .inr ⟨b, rfl, hb.1, _, rfl, hb.2, bad fun ⟨j, e, h1, h2⟩ => ?_⟩⟩⟩
        cases e
        have := of_decide_eq_true c
        omega
      · refine ⟨_, rfl, _, rfl, _, _, rfl, rfl, _, rfl, ?_⟩
        refine ite2 (fun d => ?_) (fun d => ?_)
        · refine ⟨_, rfl, by decide +kernel, _, rfl, .inr ⟨a, rfl, ha.1, _, rfl, ha.2.1, _, rfl, ha.2.2, _, rfl, .inr ⟨b, rfl, hb.1, _, rfl, hb.2, bad fun ⟨j, e, h1, h2⟩ => ?_⟩⟩⟩
          cases e
          have := of_decide_eq_true d
          omega
        · exact kY ⟨i, rfl, by
            have := of_decide_eq_false (Bool.eq_false_iff.mpr c)
            omega, by
            have := of_decide_eq_false (Bool.eq_false_iff.mpr d)
            omega⟩

theorem ok_law_cell_at (T : Txt K mg) : DefOk P w K mg base CX0 1 "_law_cell_at" ["_law_script", "_law_k"] (spCellAt K) := by
  refine def_of T.d_law_cell_at T.g_law_cell_at (fun _ _ _ _ _ _ us hl => match us, hl with | [_, _], _ => rfl) fun fd F => ?_
  refine F.ok sc_law_cell_at (fun vs H Q E h => ?_) (fun cdv A outer s H vs Q E hr h => ?_)
  · obtain ⟨a, ns, i, rfl, _⟩ := h; rfl
  · obtain ⟨a, ns, i, rfl, hS, q⟩ := h
    refine ⟨_, PSs.nox (pss_cons (ps_if (pt_cmpR op_lt (pv 1) (pe_callB (lenK K) (by rfl) T.n_len boot_len (pa_cons (pv 0) pa_nil)) (nomark _)) (pss_one (ps_ret (pe_ix (ixLK K) (pv 0) (pv 1) (fun _ _ => rfl)))) pss_nil)
 (pss_one (ps_ret pe_int))), ?_⟩
    refine ⟨_, rfl, _, rfl, _, _, rfl, .inl hS, _, _, rfl, rfl, _, rfl, ite2 (fun c => ?_) (fun c => ?_)⟩
    · have c := of_decide_eq_true c
      rw [List.length_map] at c
      have hi : i < ns.length := by omega
      refine ⟨_, rfl, _, rfl, a, _, _, _, rfl, rfl, hS, atI_nat (j := i) (v := .int ns[i]) (by rw [List.getElem?_map, List.getElem?_eq_getElem hi]; rfl), q _⟩
    · exact q _

theorem ok_law_draw (T : Txt K mg) : DefOk P w K mg base CX0 1 "_law_draw" ["_law_cell", "_law_k", "_law_bound"] spDraw := by
  refine def_of T.d_law_draw T.g_law_draw (fun _ _ _ _ _ _ us hl => match us, hl with | [_, _, _], _ => rfl) fun fd F => ?_
  refine F.ok sc_law_draw (fun vs H Q E h => ?_) (fun cdv A outer s H vs Q E hr h => ?_)
  · obtain ⟨c, k, b, rfl, _⟩ := h; rfl
  · obtain ⟨c, k, b, rfl, k0, k1, b0, b1, q⟩ := h
    refine ⟨_, PSs.nox (pss_cons (ps_if (pt_cmpR op_ge (pv 0) (pe_op op_pow pe_int pe_int) (nomark _)) (pss_cons (ps_set (i := 3) sc_law_draw.nd rfl (Or.inl rfl) (pv 0))
 (pss_cons (ps_for PassesOwn.never rfl (pi_range1 (by rfl) T.n_range (pa_cons (pv 1) pa_nil)) (pg_name (i := 4) sc_law_draw.nd rfl (Or.inl rfl)) (pss_cons (ps_if (pt_cmpR op_eq (pv 3) pe_int (nomark _)) (pss_one (ps_ret pe_int)) pss_nil)
 (pss_one (ps_set (i := 3) sc_law_draw.nd rfl (Or.inl rfl) (pe_op op_fdiv (pv 3) (pv 2))))))
 (pss_one (ps_ret (pe_op op_mod (pv 3) (pv 2)))))) pss_nil)
 (pss_cons (ps_set (i := 5) sc_law_draw.nd rfl (Or.inl rfl) (pe_op op_mod (pe_op op_mul (pe_op op_add (pe_op op_add (pe_op op_mod (pv 0) pe_int) (pe_op op_mul pe_int (pv 1))) pe_int) pe_int) pe_int))
 (pss_cons (ps_set (i := 5) sc_law_draw.nd rfl (Or.inl rfl) (pe_op op_mod (pe_op op_add (pe_op op_add (pe_op op_mul (pv 5) (pv 5)) (pe_op op_mul pe_int (pv 1))) pe_int) pe_int))
 (pss_one (ps_ret (pe_op op_mod (pe_op op_fdiv (pe_op op_mod (pe_op op_mul (pv 5) pe_int) pe_int) pe_int) (pv 2))))))), ?_⟩
    have rng : ∀ z : Int, 0 ≤ z % b ∧ z % b < b := fun z => ⟨Int.emod_nonneg z (by omega), Int.emod_lt_of_pos z (by omega)⟩
    refine ⟨_, rfl, _, _, rfl, rfl, ⟨by decide, by decide, by decide⟩, _, _, rfl, rfl, _, rfl, ite2 (fun e => ?_) (fun e => ?_)⟩
    · refine ⟨_, rfl, _, rfl, k, rfl, by omega, by omega, for_range (lo := 0) (n := k.toNat) (fun i σ H' => ∃ l y z, σ = [some (.int c), some (.int k), some (.int b), some (.int l), y, z] ∧ H' = H) ⟨c, none, none, rfl, rfl⟩ ?_ ?_⟩
      · rintro i σ H' hi ⟨l, y, z, rfl, rfl⟩
        refine ⟨_, rfl, rfl, _, rfl, ite2 (fun e2 => ?_) (fun e2 => ?_)⟩
        · exact q 0 (by omega) b0
        · exact ⟨_, rfl, _, rfl, _, _, rfl, rfl, ⟨b0, b1⟩, _, _, _, rfl, rfl⟩
      · rintro σ H' ⟨l, y, z, rfl, rfl⟩
        exact ⟨_, rfl, _, rfl, _, _, rfl, rfl, b0, q _ (rng l).1 (rng l).2⟩
    · have m1 := Int.emod_nonneg c (show (1000000007 : Int) ≠ 0 by decide)
      have m2 := Int.emod_lt_of_pos c (show (0 : Int) < 1000000007 by decide)
      refine ⟨_, rfl, _, _, rfl, rfl, (by show (0 : Int) < 1000000007; decide), _, rfl, _, _, rfl, rfl, .inl ⟨by decide, by decide⟩, _, _, rfl, rfl, _, _, rfl, rfl, _, _, rfl, rfl, .inr ⟨by decide, by decide⟩, _, _, rfl, rfl, (by show (0 : Int) < 2147483647; decide), ?_⟩
      generalize hs : ((c % 1000000007 + 1009 * k + 17) * 69621) % 2147483647 = st
      have s1 : 0 ≤ st := by rw [← hs]; exact Int.emod_nonneg _ (by decide)
      have s2 : st < 2147483647 := by rw [← hs]; exact Int.emod_lt_of_pos _ (by decide)
      refine ⟨_, rfl, _, rfl, _, _, rfl, rfl, .inl ⟨by omega, by omega⟩, _, rfl, _, _, rfl, rfl, .inl ⟨by decide, by decide⟩, _, _, rfl, rfl, _, _, rfl, rfl, _, _, rfl, rfl, (by show (0 : Int) < 2147483629; decide), ?_⟩
      generalize (st * st + 40503 * k + 5) % 2147483629 = su
      refine ⟨_, rfl, _, _, rfl, rfl, .inr ⟨by decide, by decide⟩, _, _, rfl, rfl, (by show (0 : Int) < 2147483647; decide), _, _, rfl, rfl, ⟨by decide, by decide⟩, _, rfl, _, _, rfl, rfl, b0, q _ (rng _).1 (rng _).2⟩

theorem ok_law_no_number (T : Txt K mg) : DefOk P w K mg base CX0 2 "_law_no_number" ["_law_cell", "_law_at", "_law_least", "_law_most"] (spNoNumber K) := by
  have D_law_draw : DefOk P w K mg base CX0 1 "_law_draw" ["_law_cell", "_law_k", "_law_bound"] spDraw := ok_law_draw T
  refine def_of T.d_law_no_number T.g_law_no_number (fun _ _ _ _ _ _ us hl => match us, hl with | [_, _, _, _], _ => rfl) fun fd F => ?_
  refine F.ok sc_law_no_number (fun vs H Q E h => ?_) (fun cdv A outer s H vs Q E hr h => ?_)
  · obtain ⟨c, k, a, b, rfl, _⟩ := h; rfl
  · obtain ⟨c, k, a, b, rfl, k0, k1, a0, a1, b0, b1, q⟩ := h
    refine ⟨_, PSs.nox (pss_cons (ps_set (i := 4) sc_law_no_number.nd rfl (Or.inl rfl) (pe_lst (pa_cons (pe_op op_sub (pv 2) pe_int) (pa_cons (pe_op op_add (pv 3) pe_int) (pa_cons pe_bl (pa_cons pe_bl (pa_cons pe_non (pa_cons (pe_callTy call_str_int (by rfl) T.n_str (by decide +kernel) (pa_cons (pv 2) pa_nil)) (pa_cons (pe_tup (pa_cons (pv 2) pa_nil)) (pa_cons (pe_lst (pa_cons (pv 2) pa_nil)) (pa_cons pe_dnewK (pa_cons (pe_un un_neg (pe_op op_pow pe_int pe_int)) (pa_cons (pe_op op_pow pe_int pe_int) pa_nil)))))))))))))
 (pss_one (ps_ret (pe_ix (ixLK K) (pv 4) (pe_callD D_law_draw hr (by rfl) pass0 (pa_cons (pv 0) (pa_cons (pv 1) (pa_cons pe_int pa_nil)))) (fun _ _ => rfl))))), ?_⟩
    have la : a.natAbs.log2 < 1920 := by
      have : a.natAbs < 2 ^ 60 := by omega
      have z : a.natAbs.log2 < 60 := PySem.Flt.log2_lt_of (by decide) this
      omega
    refine ⟨_, rfl, _, _, rfl, rfl, _, rfl, _, _, rfl, rfl, _, rfl, _, rfl, la, _, rfl, sz 1, fun t nt => ?_⟩
    refine ⟨_, rfl, sz 1, fun l nl => ?_⟩
    intro d nd
    refine ⟨_, _, rfl, rfl, ⟨by decide, by decide, by decide⟩, _, rfl, _, _, rfl, rfl, ⟨by decide, by decide, by decide⟩, sz 11, fun p np => ?_⟩
    have s1 : Same H (upd H t (.tup [.int a])) := same_new nt
    have s2 : Same H (upd (upd H t (.tup [.int a])) l (.lst [.int a])) := s1.trans (same_new nl)
    have s3 := s2.trans (same_new (o := .dK []) nd)
    have s4 := s3.trans (same_new (o := .lst [.int (a - 1), .int (b + 1), .bl true, .bl false, .non, .str (toString a), .ref t, .ref l, .ref d, .int (-(10 ^ 30)), .int (10 ^ 40)]) np)
    refine ⟨_, rfl, _, rfl, _, rfl, c, k, 11, rfl, k0, k1, by decide, by decide, fun r r0 r1 => ?_⟩
    have nlt : t ≠ l := ne_of_none (upd_same (H := H) (a := t) (o := .tup [.int a])) nl
    have et : ∀ o : HO, (upd (upd (upd (upd H t (.tup [.int a])) l (.lst [.int a])) d (.dK [])) p o) t = some (.tup [.int a]) := fun _ => (same_new np) _ _ ((same_new nd) _ _ ((same_new nl) _ _ upd_same))
    have el : ∀ o : HO, (upd (upd (upd (upd H t (.tup [.int a])) l (.lst [.int a])) d (.dK [])) p o) l = some (.lst [.int a]) := fun _ => (same_new np) _ _ ((same_new nd) _ _ upd_same)
    have ed : ∀ o : HO, (upd (upd (upd (upd H t (.tup [.int a])) l (.lst [.int a])) d (.dK [])) p o) d = some (.dK []) := fun _ => (same_new np) _ _ upd_same
    obtain ⟨j, rfl⟩ : ∃ j : Nat, r = (j : Int) := ⟨r.toNat, by omega⟩
    have hj : j < 11 := by omega
    have fin : ∀ v z, ([.int (a - 1), .int (b + 1), .bl true, .bl false, .non, .str (toString a), .ref t, .ref l, .ref d, .int (-(10 ^ 30)), .int (10 ^ 40)] : List V)[j]? = some v → Thing K (upd (upd (upd (upd H t (.tup [.int a])) l (.lst [.int a])) d (.dK [])) p (.lst [.int (a - 1), .int (b + 1), .bl true, .bl false, .non, .str (toString a), .ref t, .ref l, .ref d, .int (-(10 ^ 30)), .int (10 ^ 40)])) v z → ¬ NumOk v a b →
        rIxL K (.ref p) (.int (j : Int)) (upd (upd (upd (upd H t (.tup [.int a])) l (.lst [.int a])) d (.dK [])) p (.lst [.int (a - 1), .int (b + 1), .bl true, .bl false, .non, .str (toString a), .ref t, .ref l, .ref d, .int (-(10 ^ 30)), .int (10 ^ 40)])) Q := fun v z e1 e2 e3 =>
      ⟨p, _, _, v, rfl, rfl, SqL.of upd_same, atI_nat e1, q v z _ s4 e2 e3⟩
    have off : ∀ i : Int, (i < a ∨ b < i) → ¬ NumOk (.int i) a b := fun i hi ⟨x, e, h1, h2⟩ => by
      cases e; omega
    match j, hj with
    | 0, _ => exact fin _ _ rfl (thing_int _) (off _ (by omega))
    | 1, _ => exact fin _ _ rfl (thing_int _) (off _ (by omega))
    | 2, _ => exact fin _ _ rfl (thing_bl _) (fun ⟨_, e, _⟩ => nomatch e)
    | 3, _ => exact fin _ _ rfl (thing_bl _) (fun ⟨_, e, _⟩ => nomatch e)
    | 4, _ => exact fin _ _ rfl thing_non (fun ⟨_, e, _⟩ => nomatch e)
    | 5, _ => exact fin _ _ rfl (thing_str _) (fun ⟨_, e, _⟩ => nomatch e)
    | 6, _ => exact fin _ _ rfl (thing_tup (et _)) (fun ⟨_, e, _⟩ => nomatch e)
    | 7, _ => exact fin _ _ rfl (thing_lst (el _)) (fun ⟨_, e, _⟩ => nomatch e)
    | 8, _ => exact fin _ _ rfl (thing_dic (ed _)) (fun ⟨_, e, _⟩ => nomatch e)
    | 9, _ => exact fin _ _ rfl (thing_int _) (off _ (by omega))
    | 10, _ => exact fin _ _ rfl (thing_int _) (off _ (by omega))

theorem ok_law_class (T : Txt K mg) : PinOkD P w K mg base 1 "_law_class" ["_law_error"] (spClass K) := by
  refine pindef_of T.d_law_class T.g_law_class (fun _ _ _ _ _ _ us hl => match us, hl with | [_], _ => rfl) fun fd F => ?_
  refine pin_of F sc_law_class (fun p vs H Q E h => ?_) (fun cdv A outer s H vs Q E p hr h => ?_)
  · obtain ⟨rfl, _⟩ := h; rfl
  · obtain ⟨rfl, C, j, wd, hz, hf, hC, hw, q⟩ := h
    refine ⟨_, (pss_cons (ps_if (PW.pt (pw_or (pt_not (pt_val (pe_callB (call_isPin hC.exc hz hf (List.mem_singleton.mpr rfl)) (by rfl) T.n_isinstance (by decide +kernel) (pa_cons (pv 0) (pa_cons (pe_glob (v := .ref (He.ga K "TurnError")) rfl T.g_TurnError rfl) pa_nil))))) (pw_or1 (pt_not (pt_val (pe_callB (call_isPin hC.exc hz hf (List.mem_singleton.mpr rfl)) (by rfl) T.n_isinstance (by decide +kernel) (pa_cons (pv 0) (pa_cons (pe_bltn (v := .ty "ValueError") (u := .type "ValueError") (by rfl) T.n_ValueError (by decide +kernel) rfl) pa_nil)))))))) (pss_one (ps_ret pe_str)) pss_nil)
 (pss_cons (ps_set (i := 1) sc_law_class.nd rfl (Or.inl rfl) (pe_lst (pa_cons (pe_callB (call_isPin hC.exc hz hf (List.mem_singleton.mpr rfl)) (by rfl) T.n_isinstance (by decide +kernel) (pa_cons (pv 0) (pa_cons (pe_glob (v := .ref (He.ga K "NoOrder")) rfl T.g_NoOrder rfl) pa_nil))) (pa_cons (pe_callB (call_isPin hC.exc hz hf (List.mem_singleton.mpr rfl)) (by rfl) T.n_isinstance (by decide +kernel) (pa_cons (pv 0) (pa_cons (pe_glob (v := .ref (He.ga K "NoNumber")) rfl T.g_NoNumber rfl) pa_nil))) (pa_cons (pe_callB (call_isPin hC.exc hz hf (List.mem_singleton.mpr rfl)) (by rfl) T.n_isinstance (by decide +kernel) (pa_cons (pv 0) (pa_cons (pe_glob (v := .ref (He.ga K "NoRow")) rfl T.g_NoRow rfl) pa_nil))) pa_nil)))))
 (pss_cons (ps_set (i := 1) sc_law_class.nd rfl (Or.inl rfl) (pe_op op_cat (pv 1) (pe_lst (pa_cons (pe_callB (call_isPin hC.exc hz hf (List.mem_singleton.mpr rfl)) (by rfl) T.n_isinstance (by decide +kernel) (pa_cons (pv 0) (pa_cons (pe_glob (v := .ref (He.ga K "NotUpDown")) rfl T.g_NotUpDown rfl) pa_nil))) (pa_cons (pe_callB (call_isPin hC.exc hz hf (List.mem_singleton.mpr rfl)) (by rfl) T.n_isinstance (by decide +kernel) (pa_cons (pv 0) (pa_cons (pe_glob (v := .ref (He.ga K "NoPattern")) rfl T.g_NoPattern rfl) pa_nil))) (pa_cons (pe_callB (call_isPin hC.exc hz hf (List.mem_singleton.mpr rfl)) (by rfl) T.n_isinstance (by decide +kernel) (pa_cons (pv 0) (pa_cons (pe_glob (v := .ref (He.ga K "NoTree")) rfl T.g_NoTree rfl) pa_nil))) pa_nil))))))
 (pss_cons (ps_set (i := 1) sc_law_class.nd rfl (Or.inl rfl) (pe_op op_cat (pv 1) (pe_lst (pa_cons (pe_callB (call_isPin hC.exc hz hf (List.mem_singleton.mpr rfl)) (by rfl) T.n_isinstance (by decide +kernel) (pa_cons (pv 0) (pa_cons (pe_glob (v := .ref (He.ga K "NoRing")) rfl T.g_NoRing rfl) pa_nil))) (pa_cons (pe_callB (call_isPin hC.exc hz hf (List.mem_singleton.mpr rfl)) (by rfl) T.n_isinstance (by decide +kernel) (pa_cons (pv 0) (pa_cons (pe_glob (v := .ref (He.ga K "NoText")) rfl T.g_NoText rfl) pa_nil))) (pa_cons (pe_callB (call_isPin hC.exc hz hf (List.mem_singleton.mpr rfl)) (by rfl) T.n_isinstance (by decide +kernel) (pa_cons (pv 0) (pa_cons (pe_glob (v := .ref (He.ga K "NoDeed")) rfl T.g_NoDeed rfl) pa_nil))) pa_nil))))))
 (pss_cons (ps_set (i := 1) sc_law_class.nd rfl (Or.inl rfl) (pe_op op_cat (pv 1) (pe_lst (pa_cons (pe_callB (call_isPin hC.exc hz hf (List.mem_singleton.mpr rfl)) (by rfl) T.n_isinstance (by decide +kernel) (pa_cons (pv 0) (pa_cons (pe_glob (v := .ref (He.ga K "NoLine")) rfl T.g_NoLine rfl) pa_nil))) (pa_cons (pe_callB (call_isPin hC.exc hz hf (List.mem_singleton.mpr rfl)) (by rfl) T.n_isinstance (by decide +kernel) (pa_cons (pv 0) (pa_cons (pe_glob (v := .ref (He.ga K "NoLoose")) rfl T.g_NoLoose rfl) pa_nil))) (pa_cons (pe_callB (call_isPin hC.exc hz hf (List.mem_singleton.mpr rfl)) (by rfl) T.n_isinstance (by decide +kernel) (pa_cons (pv 0) (pa_cons (pe_glob (v := .ref (He.ga K "NoFraction")) rfl T.g_NoFraction rfl) pa_nil))) pa_nil))))))
 (pss_cons (ps_if (pt_cmpR op_ne (pe_bm PySem.F.plainAttrs_list PySem.F.slot_list_count PySem.F.type_list_count mt_countF (pv 1) (pa_cons pe_bl pa_nil)) pe_int (nomark _)) (pss_one (ps_ret pe_str)) pss_nil)
 (pss_cons (ps_set (i := 2) sc_law_class.nd rfl (Or.inl rfl) (pe_lst (pa_cons pe_str (pa_cons pe_str (pa_cons pe_str (pa_cons pe_str (pa_cons pe_str (pa_cons pe_str (pa_cons pe_str (pa_cons pe_str (pa_cons pe_str pa_nil)))))))))))
 (pss_one (ps_ret (pe_ix (ixLK K) (pe_op op_cat (pv 2) (pe_lst (pa_cons pe_str (pa_cons pe_str (pa_cons pe_str pa_nil))))) (pe_bm PySem.F.plainAttrs_list PySem.F.slot_list_index PySem.F.type_list_index mt_index (pv 1) (pa_cons pe_bl pa_nil)) (fun _ _ => rfl))))))))))), ?_⟩
    refine ⟨_, rfl, _, _, _, rfl, fun _ r => r, hC.turn, _, rfl, iteF ?_⟩
    refine ⟨_, rfl, _, _, _, rfl, fun _ r => r, hC.val, _, rfl, iteF ?_⟩
    refine ⟨_, rfl, _, _, _, rfl, fun _ r => r, hC.each 0 _ rfl, _, rfl, _, _, _, rfl, fun _ r => r, hC.each 1 _ rfl, _, rfl, _, _, _, rfl, fun _ r => r, hC.each 2 _ rfl, sz 3, fun a0 n0 => ?_⟩
    refine ⟨_, rfl, _, rfl, _, _, _, rfl, fun _ r => r, hC.each 3 _ rfl, _, rfl, _, _, _, rfl, fun _ r => r, hC.each 4 _ rfl, _, rfl, _, _, _, rfl, fun _ r => r, hC.each 5 _ rfl, sz 3, fun a1 n1 => ?_⟩
    refine ⟨_, _, _, _, rfl, rfl, (same_new n1) _ _ upd_same, upd_same, sz 6, fun b1 m1 => ?_⟩
    refine ⟨_, rfl, _, rfl, _, _, _, rfl, fun _ r => r, hC.each 6 _ rfl, _, rfl, _, _, _, rfl, fun _ r => r, hC.each 7 _ rfl, _, rfl, _, _, _, rfl, fun _ r => r, hC.each 8 _ rfl, sz 3, fun a2 n2 => ?_⟩
    refine ⟨_, _, _, _, rfl, rfl, (same_new n2) _ _ upd_same, upd_same, sz 9, fun b2 m2 => ?_⟩
    refine ⟨_, rfl, _, rfl, _, _, _, rfl, fun _ r => r, hC.each 9 _ rfl, _, rfl, _, _, _, rfl, fun _ r => r, hC.each 10 _ rfl, _, rfl, _, _, _, rfl, fun _ r => r, hC.each 11 _ rfl, sz 3, fun a3 n3 => ?_⟩
    refine ⟨_, _, _, _, rfl, rfl, (same_new n3) _ _ upd_same, upd_same, sz 12, fun b3 m3 => ?_⟩
    have sA := ((((((same_new (o := .lst _) n0).trans (same_new (o := .lst _) n1)).trans (same_new (o := .lst _) m1)).trans (same_new (o := .lst _) n2)).trans (same_new (o := .lst _) m2)).trans (same_new (o := .lst _) n3)).trans (same_new (o := .lst (kindsAt j)) m3)
    refine ⟨_, rfl, .inl ⟨rfl, _, SqL.of upd_same⟩, b3, kindsAt j, .bl true, rfl, rfl, SqL.of upd_same, rfl, kinds_flat j, rfl, _, rfl, ?_⟩
    rw [kinds_count j hC.lt]
    refine iteF ?_
    refine ⟨sz 9, fun w1 o1 => ?_⟩
    have sB := sA.trans (same_new (o := .lst (words.map V.str)) o1)
    refine ⟨_, rfl, sz 3, fun w2 o2 => ?_⟩
    have sC := sB.trans (same_new (o := .lst (words2.map V.str)) o2)
    refine ⟨w1, w2, words.map V.str, words2.map V.str, rfl, rfl, (same_new o2) _ _ upd_same, upd_same, sz 12, fun w3 o3 => ?_⟩
    have sD := sC.trans (same_new (o := .lst (words.map V.str ++ words2.map V.str)) o3)
    have eb : (upd (upd (upd _ w1 (.lst (words.map V.str))) w2 (.lst (words2.map V.str))) w3 (.lst (words.map V.str ++ words2.map V.str))) b3 = some (.lst (kindsAt j)) := (same_new o3) _ _ ((same_new o2) _ _ ((same_new o1) _ _ upd_same))
    refine ⟨_, rfl, .inl ⟨rfl, _, SqL.of eb⟩, b3, kindsAt j, .bl true, j, .bl true, rfl, rfl, SqL.of eb, rfl, kinds_flat j, kinds_here j hC.lt, rfl, fun m z hm hm2 => ?_, ?_⟩
    · rw [kinds_ahead j hC.lt m hm] at hm2
      cases hm2
      rfl
    · refine ⟨w3, _, _, .str wd, rfl, rfl, SqL.of upd_same, atI_nat ?_, q _ sD⟩
      rw [← List.map_append, List.getElem?_map, hw]
      rfl

theorem ref_gives {X : Cx} {k : Nat} {gg : Addr} {cdg : Value} {qq : Str} (hr : Room (k + 2) X.A) (D : PinOkD X.prog X.w X.K X.mg X.base 1 "_law_class" ["_law_error"] (spClass X.K)) (hk : 1 ≤ k + 1) (gT : X.mg "TurnError" = some (.ref (He.ga X.K "TurnError"))) :
    LamX.GivesTo X N_law_refused "_law_refused" (defScope S_law_refused) gg cdg (defBody S_law_refused) "_law_call" qq (TRef X.K) := by
  intro f c' s H Q tl act hc h
  refine ⟨_, pss_cons (ps_set (i := 1) sc_law_refused.nd rfl (Or.inl rfl) pe_str) (pss_cons (ps_try_as (X := (cxOf C8.CX0 X.prog X.w X.K X.mg X.base N_law_refused "_law_refused" (defScope S_law_refused) gg cdg X.A X.stack s H C8.E0).nox) (i := 2) (c := .ref (He.ga X.K "TurnError"))
      (tb := fun W D σ H => ∃ E : XK, (∀ cls d σ' H', E cls d H' → σ'.length = 3 → W cls d σ' H') ∧ σ[0]? = some (some (.ref f)) ∧ H c' = some (LamX.CodeO c' qq) ∧ tl E H (fun _ H' => D.nx σ H'))
      (ts := fun a cls d => tAsg (tExc X.K 2 a cls d) (gName 1)) (Wout := fun _ _ _ _ => False) rfl rfl sc_law_refused.nd rfl rfl ⟨by rfl, by decide, .inl gT⟩ takes0 (fun W pn xe tk _ => ?_) (fun a oe cls d pn hz hf => ?_)) (pss_one (ps_ret (pv 1)))), ?_⟩
  · refine ⟨fun pins s' σ H' D I h' => ?_⟩
    obtain ⟨E, hE, h1, h2, h3⟩ := h'
    exact (pss_one (ps_expr (act (fun cls d σ H => σ.length = 3 → W cls d σ H) pn xe E _ _ (takes_len tk) hE))).run pins s' σ H' D I ⟨h1, h2, h3⟩
  · refine pss_one (ps_set (i := 1) sc_law_refused.nd rfl (Or.inl rfl) ?_)
    refine ⟨fun pins s' σ H' Q I h' => ?_⟩
    obtain ⟨e1, e2, C, j, wd, e3, hC, hw, hq⟩ := h'
    subst e2 e3
    exact (pe_callP (X := (cxOf C8.CX0 X.prog X.w X.K X.mg X.base N_law_refused "_law_refused" (defScope S_law_refused) gg cdg X.A X.stack s H C8.E0).nox.suite a ((a, oe) :: pn)) (sp := spClass X.K) (E := E0) (q := (a, oe)) D (roomH_mark ((hr.deeper _).mono hk)) List.mem_cons_self (by rfl) (pa_cons (pv 2) pa_nil)).run pins s' σ H' Q I ⟨_, e1, rfl, C, j, wd, hz, hf, hC, hw, hq⟩
  · refine ⟨fun cls d H' => d = none ∧ ∃ C j wd, cls = .ref C ∧ ClassIs X.K C j ∧ (words ++ words2)[j]? = some wd ∧ ∀ H'', Same H' H'' → Q (.str wd) H'', ?_, rfl, hc, ?_⟩
    · rintro cls d σ' H' ⟨e2, C, j, wd, e3, hC, hw, hq⟩ hl
      match σ', hl with
      | [x, y, z], _ =>
        subst e3
        exact ⟨true, hC.caught, fun _ a na => ⟨rfl, e2, C, j, wd, rfl, hC, hw, fun H'' sm => ⟨_, rfl, hq H'' sm⟩⟩, fun z => nomatch z⟩
    · exact h

theorem pe_refused {X : Cx} {k : Nat} {c Pt : Addr} {t : XK → TE} {params : Arguments} {body : Expr} {scope : Scope} {p lpos pos : Pos} (d : ∃ fd, FnT X.K "_law_refused" S_law_refused fd) (g : X.mg "_law_refused" = some (.ref (He.ga X.K "_law_refused"))) (D : PinOkD X.prog X.w X.K X.mg X.base 1 "_law_class" ["_law_error"] (spClass X.K))
    (gT : X.mg "TurnError" = some (.ref (He.ga X.K "TurnError"))) (TB : LamX.TabB X.base X.mg c Pt) (hr : Room (k + 2) X.A) (hcode : X.env.code = .ref c)
    (hbody : ∀ (A : Around) (outer : List Env) (s : Shared) (H : Hp) (E : XK) (f c' : Addr), Room k (A.deeper (LamX.lamEnv X scope s.heap.objs.size f c')) → PE (LamX.lamCx X A outer s H E scope f c') body (t E))
    (hg : Gl X "_law_refused" := by rfl) (L : LamX.LamS X.env.scope scope := by exact LamX.lamS_by (by decide +kernel)) (hdef : defaultsOf params X.env = ([], []) := by rfl)
    (hbind : ∀ (q : Str) (cl : List (Str × Addr)) (pm cv ctv : Value), bindArgs (PySem.W.kla_fn "<lambda>" q params body scope cl pm cv ctv) ⟨[], []⟩ = pure [] := by exact fun _ _ _ _ _ => rfl) :
    PE X (.Call (.Name "_law_refused" p) [.Lambda params body scope lpos] [] pos) (LamX.tLam [(Pt, X.env.qual ++ "<lambda>")] (TRef X.K) t) := by
  obtain ⟨fd, F⟩ := d
  have hb := F.bindsN (ps := ["_law_call"]) (fun _ _ _ _ _ _ us hl => match us, hl with | [_], _ => rfl)
  obtain ⟨oc, od, dV, kV, doc, pm, an, cdv, ct, osl, rfl, lk, hcd, _, _⟩ := F.ex
  exact LamX.pe_lamcall hg g F.kp lk hcd hb sc_law_refused rfl (Or.inl rfl) (ref_gives hr D (Nat.le_add_left 1 k) gT) TB hcode List.mem_cons_self (fun p hp _ => by rw [List.mem_singleton.mp hp]) hr L hdef hbind hbody


/-! ### the triangle -/
def spRowBehind (K : PySem.W.Frag) : Sp := fun vs H Q _ => ∃ (a : Addr) (ns : List Int), vs = [.ref a] ∧ SqL K H a (ns.map V.int) ∧ ns.length ≤ 100 ∧ ∀ H' p, Same H H' → H p = none → H' p = some (.lst ((nextRow ns).map V.int)) → Q (.ref p) H'
/-- rows, each an object of its own, new -/
structure Rows (H H' : Hp) (qs : List Addr) (n : Nat) : Prop where
  len : qs.length = n
  nd : qs.Nodup
  row : ∀ i q, qs[i]? = some q → H q = none ∧ H' q = some (.lst ((rowN i).map V.int))
def spRowsTo (K : PySem.W.Frag) (C : Addr) : Sp := fun vs H Q E => ∃ x z, vs = [x] ∧ Thing K H x z ∧ (¬ NumOk x 1 60 → E (.ref C) none H) ∧
  ∀ n : Nat, x = .int (n : Int) → 1 ≤ n → n ≤ 60 → ∀ H' p qs, Same H H' → H p = none → H' p = some (.lst (qs.map V.ref)) → p ∉ qs → Rows H H' qs n → Q (.ref p) H'
def spRow (K : PySem.W.Frag) (C : Addr) : Sp := fun vs H Q E => ∃ x z, vs = [x] ∧ Thing K H x z ∧ (¬ NumOk x 1 60 → E (.ref C) none H) ∧
  ∀ n : Nat, x = .int ((n + 1 : Nat) : Int) → n < 60 → ∀ H' p, Same H H' → H p = none → H' p = some (.lst ((rowN n).map V.int)) → Q (.ref p) H'
theorem short_one : Short 1 := by
  refine ⟨by decide +kernel, by decide +kernel, by decide +kernel⟩
theorem short_sixty : ((60 : Int).natAbs.log2 < 1920 ∧ (Str.empty ++ ("the number is not from " : Str) ++ (toString (1 : Int) : Str) ++ (" to " : Str) ++ (toString (60 : Int) : Str)).length ≤ sizeLine) := by
  refine ⟨by decide +kernel, by decide +kernel⟩
theorem last_ints {l : List Int} {z : Int} {xs : List Int} (e : xs = l ++ [z]) : atI (xs.map V.int) (-1) = some (.int z) := by
  rw [e, List.map_append]; exact atI_last _ _
theorem get_ints {ns : List Int} {i : Nat} {x : V} (h : (ns.map V.int)[i]? = some x) : ∃ z, ns[i]? = some z ∧ x = .int z := by
  rw [List.getElem?_map] at h
  cases e : ns[i]? with
  | none => rw [e] at h; cases h
  | some z => rw [e] at h; exact ⟨z, rfl, (Option.some.inj h).symm⟩
theorem sum_more {ns : List Int} {i : Nat} {z : Int} (h : ns[i]? = some z) : (sumsTo ns i ++ [(ns.take i).sum + z]) = sumsTo ns (i + 1) := by
  rw [sumsTo_succ, sum_take h]
theorem refs_last {qs : List Addr} {m : Nat} (h : qs.length = m + 1) : (qs.map V.ref) = (qs.dropLast.map V.ref) ++ [.ref (qs[m]'(by omega))] := by
  have e1 : qs ≠ [] := fun z => by rw [z] at h; cases h
  have e2 := List.dropLast_concat_getLast e1
  have e3 : qs.getLast e1 = qs[m]'(by omega) := by
    rw [List.getLast_eq_getElem]
    congr 1
    rw [h]; rfl
  rw [e3] at e2
  rw [← List.map_singleton, ← List.map_append, e2]
theorem ok_row_behind (T : Txt K mg) : DefOk P w K mg base CX0 1 "row_behind" ["ahead"] (spRowBehind K) := by
  refine def_of T.d_row_behind T.g_row_behind (fun _ _ _ _ _ _ us hl => match us, hl with | [_], _ => rfl) fun fd F => ?_
  refine F.ok sc_row_behind (fun vs H Q E h => ?_) (fun cdv A outer s H vs Q E hr h => ?_)
  · obtain ⟨a, ns, rfl, _⟩ := h; rfl
  · obtain ⟨a, ns, rfl, hS, hl, q⟩ := h
    refine ⟨_, PSs.nox (pss_cons (ps_set (i := 1) sc_row_behind.nd rfl (Or.inl rfl) (pe_lst (pa_cons pe_int pa_nil)))
 (pss_cons (ps_for PassesOwn.never rfl (pi_list (pv 0)) (pg_name (i := 2) sc_row_behind.nd rfl (Or.inl rfl)) (pss_one (ps_expr (pe_bm PySem.F.plainAttrs_list PySem.F.slot_list_append PySem.F.type_list_append mt_append (pv 1) (pa_cons (pe_op op_add (pe_ix (ixLK K) (pv 1) (pe_un un_neg pe_int) (fun _ _ => rfl)) (pv 2)) pa_nil)))))
 (pss_one (ps_ret (revLK K (pv 1)))))), ?_⟩
    refine ⟨sz 1, fun l nl => ?_⟩
    refine ⟨_, rfl, a, rfl, ⟨_, (same_new nl).seq hS⟩, for_list (xs := ns.map V.int) (fun i σ H' => ∃ y, σ = [some (.ref a), some (.ref l), y] ∧ Same H H' ∧ H' l = some (.lst ((sumsTo ns i).map V.int))) ⟨none, rfl, same_new nl, upd_same⟩ (fun i σ H' _ ⟨_, _, s5, _⟩ => s5.seq hS) ?_ ?_⟩
    · rintro i x σ H' hi ⟨y, rfl, s5, el⟩
      obtain ⟨z, hz, rfl⟩ := get_ints hi
      have hin : i < ns.length := (List.getElem?_eq_some_iff.mp hz).1
      obtain ⟨l0, e0⟩ := sumsTo_last ns i
      refine ⟨_, rfl, .inl ⟨rfl, _, SqL.of el⟩, _, rfl, _, rfl, l, _, _, _, rfl, rfl, SqL.of el, last_ints e0, _, rfl, _, _, rfl, rfl, l, _, _, rfl, rfl, el, ?_, ?_⟩
      · rw [List.length_map, sumsTo_len]; exact Nat.lt_of_le_of_lt (show i + 1 ≤ 1000 by omega) (by decide)
      · refine ⟨_, rfl, same_set s5 nl, ?_⟩
        rw [upd_same, ← sum_more hz, List.map_append]; rfl
    · rintro σ H' ⟨y, rfl, s5, el⟩
      refine ⟨_, rfl, l, _, rfl, SqL.of el, fun p np => q _ p (s5.trans (same_new np)) (s5.free np) ?_⟩
      rw [upd_same, ← List.map_reverse, List.length_map]; rfl

theorem ok_rows_to (T : Txt K mg) : DefOk P w K mg base (L2.CX P w) 3 "rows_to" ["n"] (spRowsTo K (He.ga K "NoNumber")) := by
  have D_need_number : DefOk P w K mg base (L2.CX P w) 2 "need_number" ["thing", "least", "most"] (spNeed K (He.ga K "NoNumber")) := ok_need_number T
  have D_row_behind : DefOk P w K mg base CX0 1 "row_behind" ["ahead"] (spRowBehind K) := ok_row_behind T
  refine def_of T.d_rows_to T.g_rows_to (fun _ _ _ _ _ _ us hl => match us, hl with | [_], _ => rfl) fun fd F => ?_
  refine F.ok sc_rows_to (fun vs H Q E h => ?_) (fun cdv A outer s H vs Q E hr h => ?_)
  · obtain ⟨x, z, rfl, _⟩ := h; rfl
  · obtain ⟨x, z, rfl, hT, kN, kY⟩ := h
    refine ⟨_, (pss_cons (ps_expr (pe_callD (E := E) D_need_number hr (by rfl) (passOut (takes_of rfl rfl rfl rfl)) (pa_cons (pv 0) (pa_cons pe_int (pa_cons (pe_glob (v := .int 60) rfl T.c_MOST_ROWS.choose_spec ⟨_, rfl⟩) pa_nil)))))
 (pss_cons (ps_set (i := 1) sc_rows_to.nd rfl (Or.inl rfl) (pe_lst (pa_cons (pe_lst (pa_cons pe_int pa_nil)) pa_nil)))
 (pss_cons (ps_while (passes_of rfl) (pt_cmpR op_lt (pe_callB (lenK K) (by rfl) T.n_len boot_len (pa_cons (pv 1) pa_nil)) (pv 0) (nomark _)) (pss_one (ps_expr (pe_bm PySem.F.plainAttrs_list PySem.F.slot_list_append PySem.F.type_list_append mt_append (pv 1) (pa_cons (pe_callD D_row_behind hr (by rfl) pass0 (pa_cons (pe_ix (ixLK K) (pv 1) (pe_un un_neg pe_int) (fun _ _ => rfl)) pa_nil)) pa_nil)))))
 (pss_one (ps_ret (pv 1)))))), ?_⟩
    refine ⟨_, rfl, x, 1, 60, z, rfl, short_one, short_sixty, hT, fun ok => ?_, kN⟩
    obtain ⟨i, rfl, h1, h2⟩ := ok
    obtain ⟨n, rfl⟩ : ∃ n : Nat, i = (n : Int) := ⟨i.toNat, by omega⟩
    refine ⟨sz 1, fun r nr => ?_⟩
    refine ⟨sz 1, fun p np => ?_⟩
    have npr : p ≠ r := fun e => by rw [e, upd_same] at np; cases np
    have fp : H p = none := (same_new nr).free np
    refine while_by (fun σ H' => ∃ k qs, σ = [some (.int (n : Int)), some (.ref p)] ∧ Same H H' ∧ H' p = some (.lst (qs.map V.ref)) ∧ p ∉ qs ∧ Rows H H' qs (k + 1) ∧ k + 1 ≤ n)
      (fun σ H' => match H' p with | some (.lst xs) => n - xs.length | _ => 0) ⟨0, [r], rfl, (same_new nr).trans (same_new np), upd_same, by simpa using npr, ⟨rfl, by simp, ?_⟩, by omega⟩ ?_ ?_
    · intro i q hq
      match i, hq with
      | 0, hq =>
        cases hq
        exact ⟨nr, by rw [upd_ne npr.symm]; exact upd_same⟩
    · rintro σ H' ⟨k, qs, rfl, sm, ep, npq, R, hk⟩
      refine ⟨_, rfl, p, _, rfl, .inl (SqL.of ep), _, rfl, _, _, rfl, rfl, _, rfl, ite2 (fun c => ?_) (fun c => ?_)⟩
      · have c := of_decide_eq_true c
        rw [List.length_map, R.len] at c
        have hq : k < qs.length := by rw [R.len]; omega
        have hqk := R.row k _ (List.getElem?_eq_getElem hq)
        have eL : (qs.map V.ref) = (qs.dropLast.map V.ref) ++ [.ref qs[k]] := by
          have e1 : qs ≠ [] := fun z => by rw [z] at hq; exact absurd hq (Nat.not_lt_zero _)
          have e2 := List.dropLast_concat_getLast e1
          have e3 : qs.getLast e1 = qs[k] := by
            rw [List.getLast_eq_getElem]
            congr 1
            rw [R.len]; rfl
          rw [e3] at e2
          rw [← List.map_singleton, ← List.map_append, e2]
        refine ⟨_, rfl, .inl ⟨rfl, _, SqL.of ep⟩, _, rfl, _, rfl, p, _, _, .ref qs[k], rfl, rfl, SqL.of ep, by rw [eL]; exact atI_last _ _, qs[k], rowN k, rfl, SqL.of hqk.2, by rw [rowN_len]; omega, fun H2 q s2 nq eq => ?_⟩
        refine ⟨p, qs.map V.ref, .ref q, rfl, rfl, s2 _ _ ep, by rw [List.length_map, R.len]; exact Nat.lt_of_le_of_lt (show k + 1 ≤ 1000 by omega) (by decide), ?_⟩
        have qp : q ≠ p := fun e => by rw [e, ep] at nq; cases nq
        have qnew : q ∉ qs := fun hm => by
          obtain ⟨j, hj, e⟩ := List.mem_iff_getElem.mp hm
          have z := (R.row j q (by rw [List.getElem?_eq_getElem hj, e])).2
          rw [z] at nq; cases nq
        have up1 : (upd H2 p (.lst (qs.map V.ref ++ [V.ref q]))) p = some (.lst ((qs ++ [q]).map V.ref)) := by rw [upd_same, List.map_append]; rfl
        refine ⟨⟨k + 1, qs ++ [q], rfl, same_set (sm.trans s2) fp, up1, by simp [npq, qp.symm], ⟨by rw [List.length_append, R.len]; rfl, List.nodup_append.mpr ⟨R.nd, by simp, fun a ha b hb => by rw [List.mem_singleton.mp hb]; exact fun e => qnew (by rw [← e]; exact ha)⟩, ?_⟩, by omega⟩, ?_⟩
        · intro j y hj
          by_cases hjk : j < qs.length
          · rw [List.getElem?_append_left hjk] at hj
            obtain ⟨z1, z2⟩ := R.row j y hj
            have yp : y ≠ p := fun e => npq (e ▸ List.mem_of_getElem? hj)
            exact ⟨z1, by rw [upd_ne yp]; exact s2 _ _ z2⟩
          · have hj2 : j = qs.length := by
              have := (List.getElem?_eq_some_iff.mp hj).1
              rw [List.length_append] at this
              simp at this
              omega
            subst hj2
            rw [List.getElem?_append_right (Nat.le_refl _), Nat.sub_self] at hj
            cases hj
            refine ⟨sm.free nq, ?_⟩
            rw [upd_ne qp, eq, R.len]; rfl
        · show (match (upd H2 p (.lst (qs.map V.ref ++ [V.ref q]))) p with | some (.lst xs) => n - xs.length | _ => 0) < (match H' p with | some (.lst xs) => n - xs.length | _ => 0)
          rw [upd_same, ep]
          show n - (qs.map V.ref ++ [V.ref q]).length < n - (qs.map V.ref).length
          rw [List.length_append, List.length_map, R.len]
          show n - (k + 1 + 1) < n - (k + 1)
          omega
      · have c := of_decide_eq_false (Bool.eq_false_iff.mpr c)
        rw [List.length_map, R.len] at c
        have e : k + 1 = n := by omega
        subst e
        exact ⟨_, rfl, kY _ rfl (by omega) (by omega) H' p qs sm fp ep npq R⟩
    · intro σ H' Q1 Q2 hq hc
      obtain ⟨v, e1, a, ys, e2, e3, v2, e4, i, j, e5, e6, b, e7, e8⟩ := hc
      exact ⟨v, e1, a, ys, e2, e3, v2, e4, i, j, e5, e6, b, e7, hq _ _ e8⟩

theorem ok_row (T : Txt K mg) : DefOk P w K mg base (L2.CX P w) 4 "row" ["n"] (spRow K (He.ga K "NoNumber")) := by
  have D_rows_to : DefOk P w K mg base (L2.CX P w) 3 "rows_to" ["n"] (spRowsTo K (He.ga K "NoNumber")) := ok_rows_to T
  refine def_of T.d_row T.g_row (fun _ _ _ _ _ _ us hl => match us, hl with | [_], _ => rfl) fun fd F => ?_
  refine F.ok sc_row (fun vs H Q E h => ?_) (fun cdv A outer s H vs Q E hr h => ?_)
  · obtain ⟨x, z, rfl, _⟩ := h; rfl
  · obtain ⟨x, z, rfl, hT, kN, kY⟩ := h
    refine ⟨_, (pss_one (ps_ret (pe_ix (ixLK K) (pe_callD (E := E) D_rows_to hr (by rfl) (passOut (takes_of rfl rfl rfl rfl)) (pa_cons (pv 0) pa_nil)) (pe_un un_neg pe_int) (fun _ _ => rfl)))), ?_⟩
    refine ⟨_, rfl, x, z, rfl, hT, kN, fun n e h1 h2 H' p qs sm fp ep npq R => ?_⟩
    obtain ⟨m, rfl⟩ : ∃ m, n = m + 1 := ⟨n - 1, by omega⟩
    have hm : m < qs.length := by rw [R.len]; omega
    have hq := R.row m _ (List.getElem?_eq_getElem hm)
    refine ⟨_, rfl, p, _, _, .ref qs[m], rfl, rfl, SqL.of ep, by rw [refs_last R.len]; exact atI_last _ _, kY m e (by omega) H' _ sm hq.1 hq.2⟩


def spFalls (K : PySem.W.Frag) (C : Addr) : Sp := fun vs H Q E => ∃ x z, vs = [x] ∧ Thing K H x z ∧ (¬ NumOk x 1 60 → E (.ref C) none H) ∧
  ∀ n : Nat, x = .int ((n + 1 : Nat) : Int) → n < 60 → ∀ H' p, Same H H' → H p = none → H' p = some (.lst ((fallsL (rowN n)).map V.int)) → Q (.ref p) H'
/-- the table's lists -/
structure Boards (H H' : Hp) (rs : List Addr) (n : Nat) : Prop where
  len : rs.length = n
  nd : rs.Nodup
  row : ∀ i q, rs[i]? = some q → H q = none ∧ H' q = some (.lst ((tabRow i).map V.int))
theorem Boards.more {H H3 H4 : Hp} {rs : List Addr} {n : Nat} {y : Addr} (B : Boards H H3 rs n) (fy : H y = none) (ny : y ∉ rs) (k : ∀ q o, q ∈ rs → H3 q = some o → H4 q = some o) (ey : H4 y = some (.lst ((tabRow n).map V.int))) : Boards H H4 (rs ++ [y]) (n + 1) := by
  refine ⟨by rw [List.length_append, B.len]; rfl, List.nodup_append.mpr ⟨B.nd, by simp, fun a ha b hb => by rw [List.mem_singleton.mp hb]; exact fun e => ny (by rw [← e]; exact ha)⟩, fun i q h => ?_⟩
  by_cases hi : i < rs.length
  · rw [List.getElem?_append_left hi] at h
    obtain ⟨z1, z2⟩ := B.row i q h
    exact ⟨z1, k q _ (List.mem_of_getElem? h) z2⟩
  · have hi2 : i = rs.length := by
      have := (List.getElem?_eq_some_iff.mp h).1
      rw [List.length_append] at this
      simp at this
      omega
    subst hi2
    rw [List.getElem?_append_right (Nat.le_refl _), Nat.sub_self] at h
    cases h
    exact ⟨fy, by rw [B.len]; exact ey⟩
def spTable (K : PySem.W.Frag) (C : Addr) : Sp := fun vs H Q E => ∃ x z, vs = [x] ∧ Thing K H x z ∧ (¬ NumOk x 1 60 → E (.ref C) none H) ∧
  ∀ n : Nat, x = .int (n : Int) → 1 ≤ n → n ≤ 60 → ∀ H' p rs, Same H H' → H p = none → H' p = some (.lst (rs.map V.ref)) → p ∉ rs → Boards H H' rs n → Q (.ref p) H'
theorem same_set2 {H H' : Hp} {p : Addr} {o : HO} (e : Same H H') (n : H p = none) : Same H (upd H' p o) := same_set e n
theorem cut_one (xs : List V) : cutV xs (some 1) none = xs.drop 1 := by
  unfold cutV
  have e : HT.sIx xs.length 0 (some 1) = min 1 xs.length := HT.sIx_nat xs.length 0 1
  rw [e, HT.sIx_none]
  cases xs with
  | nil => rfl
  | cons x r =>
    have e1 : min 1 (x :: r).length = 1 := by rw [List.length_cons]; omega
    rw [e1]
    exact List.take_of_length_le (by simp)
theorem falls_len (ns : List Int) : (fallsL ns).length = ns.length - 1 := by
  unfold fallsL
  rw [List.length_map, List.length_range]
theorem falls_get {ns : List Int} {i : Nat} (h : i + 1 < ns.length) : (fallsL ns)[i]? = some (ns[i] - ns[i + 1]) := by
  unfold fallsL
  rw [List.getElem?_map, List.getElem?_range (by omega)]
  show some (ns.getD i 0 - ns.getD (i + 1) 0) = _
  rw [List.getD_eq_getElem?_getD, List.getD_eq_getElem?_getD, List.getElem?_eq_getElem h, List.getElem?_eq_getElem (show i < ns.length by omega)]
  rfl

theorem small_n {n : Nat} (h : n ≤ 1000) : n < sizeLine := Nat.lt_of_le_of_lt h (by decide)


def spMany (K : PySem.W.Frag) (C : Addr) : Sp := fun vs H Q E => ∃ x z, vs = [x] ∧ Thing K H x z ∧ (¬ NumOk x 1 60 → E (.ref C) none H) ∧
  ∀ n : Nat, x = .int ((n + 1 : Nat) : Int) → n < 60 → ∀ H', Same H H' → Q (.int (rowN n).sum) H'
def manyL (n : Nat) : List Int := (List.range n).map fun j => (rowN j).sum
def spAllMany (K : PySem.W.Frag) (C : Addr) : Sp := fun vs H Q E => ∃ x z, vs = [x] ∧ Thing K H x z ∧ (¬ NumOk x 1 60 → E (.ref C) none H) ∧
  ∀ n : Nat, x = .int (n : Int) → 1 ≤ n → n ≤ 60 → ∀ H' p, Same H H' → H p = none → H' p = some (.lst ((manyL n).map V.int)) → Q (.ref p) H'
theorem manyL_len (n : Nat) : (manyL n).length = n := by
  unfold manyL
  rw [List.length_map, List.length_range]
theorem manyL_more (n : Nat) : manyL (n + 1) = manyL n ++ [(rowN n).sum] := by
  unfold manyL
  rw [List.range_succ, List.map_append]; rfl
theorem ok_many (T : Txt K mg) : DefOk P w K mg base (L2.CX P w) 5 "many" ["n"] (spMany K (He.ga K "NoNumber")) := by
  have D_row : DefOk P w K mg base (L2.CX P w) 4 "row" ["n"] (spRow K (He.ga K "NoNumber")) := ok_row T
  refine def_of T.d_many T.g_many (fun _ _ _ _ _ _ us hl => match us, hl with | [_], _ => rfl) fun fd F => ?_
  refine F.ok sc_many (fun vs H Q E h => ?_) (fun cdv A outer s H vs Q E hr h => ?_)
  · obtain ⟨x, z, rfl, _⟩ := h; rfl
  · obtain ⟨x, z, rfl, hT, kN, kY⟩ := h
    refine ⟨_, (pss_one (ps_ret (pe_callB (sumK K rfl) (by rfl) T.n_sum (by decide +kernel) (pa_cons (pe_callD (E := E) D_row hr (by rfl) (passOut (takes_of rfl rfl rfl rfl)) (pa_cons (pv 0) pa_nil)) pa_nil)))), ?_⟩
    refine ⟨_, rfl, x, z, rfl, hT, kN, fun n e h1 H1 p sm fp ep => ?_⟩
    exact ⟨p, rowN n, rfl, SqL.of ep, kY n e h1 H1 sm⟩

theorem ok_all_many (T : Txt K mg) : DefOk P w K mg base (L2.CX P w) 4 "all_many" ["n"] (spAllMany K (He.ga K "NoNumber")) := by
  have D_rows_to : DefOk P w K mg base (L2.CX P w) 3 "rows_to" ["n"] (spRowsTo K (He.ga K "NoNumber")) := ok_rows_to T
  refine def_of T.d_all_many T.g_all_many (fun _ _ _ _ _ _ us hl => match us, hl with | [_], _ => rfl) fun fd F => ?_
  refine F.ok sc_all_many (fun vs H Q E h => ?_) (fun cdv A outer s H vs Q E hr h => ?_)
  · obtain ⟨x, z, rfl, _⟩ := h; rfl
  · obtain ⟨x, z, rfl, hT, kN, kY⟩ := h
    refine ⟨_, (pss_one (ps_ret (pe_lc (own := [("numbers", 1)]) (g := gName 1) (tt := tYes) (by rfl) sc_all_many.nd (pi_list (pe_callD (E := E) D_rows_to hr (by rfl) (passOut (takes_of rfl rfl rfl rfl)) (pa_cons (pv 0) pa_nil))) (blkOk_by (own := [("numbers", 1)]) (N := N_all_many) (sc := defScope S_all_many) (by decide +kernel)) (fun _ _ _ _ _ => (pg_name (i := 1) sc_all_many.nd rfl (Or.inl rfl))) (fun _ _ _ _ _ => pts_nil) (fun _ _ _ _ _ => (pe_callB (sumK K rfl) (by rfl) T.n_sum (by decide +kernel) (pa_cons (pv 1) pa_nil)))))), ?_⟩
    refine ⟨_, rfl, x, z, rfl, hT, kN, fun n e h1 h2 H1 p qs sm fp ep npq R => ?_⟩
    refine ⟨p, rfl, ⟨_, SqL.of ep⟩, fun D nD => ?_⟩
    refine lc_list (K := K) (xs := qs.map V.ref) (fun i H3 => Same H1 H3 ∧ H3 D = some (.lst ((manyL i).map V.int))) ⟨same_new nD, upd_same⟩ (fun i H3 _ ⟨s3, _⟩ => s3.seq (SqL.of ep)) ?_ ?_
    · rintro i x H3 hi ⟨s3, eD⟩
      have hiq : i < qs.length := by
        have := (List.getElem?_eq_some_iff.mp hi).1
        rw [List.length_map] at this
        exact this
      have hx : x = .ref qs[i] := by
        rw [List.getElem?_map, List.getElem?_eq_getElem hiq] at hi
        exact (Option.some.inj hi).symm
      subst hx
      have hq := (R.row i _ (List.getElem?_eq_getElem hiq)).2
      refine ⟨rfl, _, rfl, qs[i], rowN i, rfl, SqL.of (s3 _ _ hq), _, eD, small_n (by rw [List.length_map, manyL_len]; rw [R.len] at hiq; omega), same_set s3 nD, ?_⟩
      rw [upd_same, manyL_more, List.map_append]; rfl
    · rintro H3 ⟨s3, eD⟩
      rw [List.length_map, R.len] at eD
      exact kY n e h1 h2 H3 D (sm.trans s3) (sm.free nD) eD

def spAllDue : Sp := fun vs H Q _ => vs = [.int 60] ∧ ∀ H' p, Same H H' → H p = none → H' p = some (.lst (((dueAt 59).1.drop 1).map V.int)) → Q (.ref p) H'
theorem getI {l : List Int} {j : Nat} (h : j < l.length) : (l.map V.int)[j]? = some (.int (l.getD j 0)) := by
  rw [List.getElem?_map, List.getElem?_eq_getElem h, List.getD_eq_getElem?_getD, List.getElem?_eq_getElem h]; rfl
theorem memI {l : List Int} {j : Nat} (h : j < l.length) : l.getD j 0 ∈ l := by
  rw [List.getD_eq_getElem?_getD, List.getElem?_eq_getElem h]; exact List.getElem_mem h
theorem getD_take {l : List Int} {j : Nat} (f : Nat → Int) (n : Nat) : ((List.range n).map f).take j = (List.range (min j n)).map f := by
  rw [← List.map_take, List.take_range]
theorem ok_law_all_due (T : Txt K mg) : DefOk P w K mg base CX0 1 "_law_all_due" ["_law_most"] spAllDue := by
  refine def_of T.d_law_all_due T.g_law_all_due (fun _ _ _ _ _ _ us hl => match us, hl with | [_], _ => rfl) fun fd F => ?_
  refine F.ok sc_law_all_due (fun vs H Q E h => ?_) (fun cdv A outer s H vs Q E hr h => ?_)
  · obtain ⟨rfl, _⟩ := h; rfl
  · obtain ⟨rfl, kY⟩ := h
    refine ⟨_, PSs.nox (pss_cons (ps_set (i := 1) sc_law_all_due.nd rfl (Or.inr rfl) (pe_lst (pa_cons pe_int (pa_cons pe_int pa_nil))))
 (pss_cons (ps_set (i := 2) sc_law_all_due.nd rfl (Or.inr rfl) (pe_lst (pa_cons pe_int (pa_cons pe_int pa_nil))))
 (pss_cons (ps_for PassesOwn.never rfl (pi_range2 (by rfl) T.n_range (pa_cons pe_int (pa_cons (pv 0) pa_nil))) (pg_name (i := 3) sc_law_all_due.nd rfl (Or.inr rfl)) (pss_cons (ps_set (i := 4) sc_law_all_due.nd rfl (Or.inl rfl) (pe_callB (sumK K rfl) (by rfl) T.n_sum (by decide +kernel) (pa_cons (pe_lc (own := [("_law_j", 5)]) (g := gName 5) (tt := tYes) (by rfl) sc_law_all_due.nd (pi_range1 (by rfl) T.n_range (pa_cons (pe_op op_add (pv 3) pe_int) pa_nil)) (blkOk_by (own := [("_law_j", 5)]) (N := N_law_all_due) (sc := defScope S_law_all_due) (by decide +kernel)) (fun _ _ _ _ _ => (pg_name (i := 5) sc_law_all_due.nd rfl (Or.inl rfl))) (fun _ _ _ _ _ => pts_nil) (fun _ _ _ _ _ => (pe_op op_mulW (pe_op op_mulW (pe_ix (ixLK K) (pv 2) (pv 5) (fun _ _ => rfl)) (pe_ix (ixLK K) (pv 1) (pv 5) (fun _ _ => rfl))) (pe_ix (ixLK K) (pv 1) (pe_op op_sub (pv 3) (pv 5)) (fun _ _ => rfl))))) pa_nil)))
 (pss_cons (ps_expr (pe_bm PySem.F.plainAttrs_list PySem.F.slot_list_append PySem.F.type_list_append mt_append (pv 1) (pa_cons (pe_op op_fdiv (pv 4) pe_int) pa_nil)))
 (pss_one (ps_set (i := 2) sc_law_all_due.nd rfl (Or.inr rfl) (pe_op op_cat (pe_op op_cat (pe_lst (pa_cons pe_int pa_nil)) (pe_lc (own := [("_law_j", 5)]) (g := gName 5) (tt := tYes) (by rfl) sc_law_all_due.nd (pi_range1 (by rfl) T.n_range (pa_cons (pv 3) pa_nil)) (blkOk_by (own := [("_law_j", 5)]) (N := N_law_all_due) (sc := defScope S_law_all_due) (by decide +kernel)) (fun _ _ _ _ _ => (pg_name (i := 5) sc_law_all_due.nd rfl (Or.inl rfl))) (fun _ _ _ _ _ => pts_nil) (fun _ _ _ _ _ => (pe_op op_add (pe_ix (ixLK K) (pv 2) (pv 5) (fun _ _ => rfl)) (pe_ix (ixLK K) (pv 2) (pe_op op_add (pv 5) pe_int) (fun _ _ => rfl)))))) (pe_lst (pa_cons pe_int pa_nil))))))))
 (pss_one (ps_ret (pe_slice (slLK K) (pv 1) (po_some pe_int) po_none)))))), ?_⟩
    refine ⟨sz 2, fun f nf => ?_⟩
    refine ⟨sz 2, fun g ng => ?_⟩
    have s1 := same_new (o := .lst [.int 1, .int 1]) nf
    have fg : f ≠ g := ne_of_none upd_same ng
    have hf : H f = none := nf
    refine ⟨_, rfl, 1, 60, rfl, ⟨by decide, by decide, by decide, by decide⟩, for_range (lo := 1) (n := 59) (fun i σ H' => ∃ g x3 x4 x5, σ = [some (.int 60), some (.ref f), some (.ref g), x3, x4, x5] ∧ Same H H' ∧ f ≠ g ∧ H' f = some (.lst ((dueAt i).1.map V.int)) ∧ H' g = some (.lst ((dueAt i).2.map V.int)))
      ⟨g, none, none, none, rfl, s1.trans (same_new ng), fg, by rw [upd_ne fg]; exact upd_same, upd_same⟩ ?_ ?_⟩
    · rintro i σ H' hi ⟨g, x3, x4, x5, rfl, sm, fg, ef, eg⟩
      obtain ⟨l1, l2⟩ := due_len i
      obtain ⟨b1, b2⟩ := due_lt (i := i) (by omega)
      generalize hF : (dueAt i).1 = Fl at *
      generalize hC : (dueAt i).2 = Cl at *
      -- twice
      refine ⟨_, rfl, _, _, rfl, rfl, 1 + (i : Int) + 1, rfl, by omega, by omega, fun D nD => ?_⟩
      have en : (1 + (i : Int) + 1).toNat = i + 1 + 1 := by omega
      rw [en]
      have fD : f ≠ D := ne_of_none ef nD
      refine lc_range (lo := 0) (n := i + 1 + 1) (fun j H3 => Same H' H3 ∧ H3 D = some (.lst (((List.range j).map fun j => Cl.getD j 0 * Fl.getD j 0 * Fl.getD (i + 1 - j) 0).map V.int))) ⟨same_new nD, upd_same⟩ ?_ ?_
      · rintro j H3 hj ⟨s3, eD⟩
        have ef3 := s3 _ _ ef
        have eg3 := s3 _ _ eg
        have jc : j < Cl.length := by omega
        have jf : j < Fl.length := by omega
        have kf : i + 1 - j < Fl.length := by omega
        refine ⟨rfl, _, rfl, _, rfl, g, _, _, _, rfl, rfl, SqL.of eg3, at_of (j := j) (by omega) (getI jc), _, rfl, _, rfl, f, _, _, _, rfl, rfl, SqL.of ef3, at_of (j := j) (by omega) (getI jf), _, _, rfl, rfl, ?_, ?_⟩
        · exact wide_mul (b2 _ (memI jc)) (b1 _ (memI jf)) (by decide) (by decide) (by decide)
        refine ⟨_, rfl, _, rfl, _, rfl, _, _, rfl, rfl, f, _, _, _, rfl, rfl, SqL.of ef3, at_of (j := i + 1 - j) (by omega) (getI kf), _, _, rfl, rfl, ?_, ?_⟩
        · exact wide_mul (wide_lt (b2 _ (memI jc)) (b1 _ (memI jf))) (b1 _ (memI kf)) (by decide) (by decide) (by decide)
        refine ⟨_, eD, small_n (by rw [List.length_map, List.length_map, List.length_range]; omega), same_set s3 nD, ?_⟩
        rw [upd_same, List.range_succ, List.map_append, List.map_append]; rfl
      rintro H3 ⟨s3, eD⟩
      refine ⟨D, _, rfl, SqL.of eD, ?_⟩
      have ef3 := s3 _ _ ef
      have eg3 := s3 _ _ eg
      refine ⟨_, rfl, .inl ⟨rfl, _, SqL.of ef3⟩, _, rfl, _, _, rfl, rfl, ⟨by decide, by decide⟩, f, _, _, rfl, rfl, ef3, small_n (by rw [List.length_map]; omega), ?_⟩
      have eg4 : (upd H3 f (.lst (Fl.map V.int ++ [.int (twiceAt Fl Cl (i + 1) / 2)]))) g = some (.lst (Cl.map V.int)) := by rw [upd_ne fg.symm]; exact eg3
      have s4 : Same H (upd H3 f (.lst (Fl.map V.int ++ [.int (twiceAt Fl Cl (i + 1) / 2)]))) := same_set (sm.trans s3) hf
      have ef4 : (upd H3 f (.lst (Fl.map V.int ++ [.int (twiceAt Fl Cl (i + 1) / 2)]))) f = some (.lst ((dueAt (i + 1)).1.map V.int)) := by
        rw [upd_same]
        show _ = some (HO.lst (((dueAt i).1 ++ [twiceAt (dueAt i).1 (dueAt i).2 (i + 1) / 2]).map V.int))
        rw [hF, hC, List.map_append]; rfl
      show _
      refine ⟨sz 1, fun u nu => ?_⟩
      have su := same_new (o := .lst [.int 1]) nu
      refine ⟨_, rfl, 1 + (i : Int), rfl, by omega, by omega, fun D2 nD2 => ?_⟩
      have en2 : (1 + (i : Int)).toNat = i + 1 := by omega
      rw [en2]
      refine lc_range (lo := 0) (n := i + 1) (fun j H5 => Same (upd (upd H3 f (.lst (Fl.map V.int ++ [.int (twiceAt Fl Cl (i + 1) / 2)]))) u (.lst [.int 1])) H5 ∧ H5 D2 = some (.lst (((List.range j).map fun j => Cl.getD j 0 + Cl.getD (j + 1) 0).map V.int))) ⟨same_new nD2, upd_same⟩ ?_ ?_
      · rintro j H5 hj ⟨s5, eD2⟩
        have eg5 := s5 _ _ (su _ _ eg4)
        refine ⟨rfl, _, rfl, _, rfl, g, _, _, _, rfl, rfl, SqL.of eg5, at_of (j := j) (by omega) (getI (by omega)), _, rfl, _, rfl, _, _, rfl, rfl, g, _, _, _, rfl, rfl, SqL.of eg5, at_of (j := j + 1) (by omega) (getI (by omega)), _, _, rfl, rfl, _, eD2, small_n (by rw [List.length_map, List.length_map, List.length_range]; omega), same_set s5 nD2, ?_⟩
        rw [upd_same, List.range_succ, List.map_append, List.map_append]; rfl
      rintro H5 ⟨s5, eD2⟩
      have eu5 := s5 _ _ (upd_same (H := upd H3 f (.lst (Fl.map V.int ++ [.int (twiceAt Fl Cl (i + 1) / 2)]))) (a := u) (o := .lst [.int 1]))
      refine ⟨u, D2, _, _, rfl, rfl, eu5, eD2, ?_, fun u2 nu2 => ?_⟩
      · rw [List.length_map, List.length_map, List.length_range]; exact sz' (show 1 + (i + 1) ≤ 1000 by omega)
      refine ⟨sz 1, fun u3 nu3 => ?_⟩
      have k3 := same_new (o := .lst [.int 1]) nu3
      refine ⟨u2, u3, _, _, rfl, rfl, k3 _ _ upd_same, upd_same, ?_, fun u4 nu4 => ?_⟩
      · rw [List.length_append, List.length_map, List.length_map, List.length_range]; exact sz' (show 1 + (i + 1) + 1 ≤ 1000 by omega)
      have ka := ((su.trans s5).trans (same_new (o := .lst ([.int 1] ++ ((List.range (i + 1)).map fun j => Cl.getD j 0 + Cl.getD (j + 1) 0).map V.int)) nu2)).trans (k3.trans (same_new (o := .lst ([.int 1] ++ ((List.range (i + 1)).map fun j => Cl.getD j 0 + Cl.getD (j + 1) 0).map V.int ++ [.int 1])) nu4))
      have f4 : f ≠ u4 := fun e => by
        have z := ((su.trans s5).trans (same_new (o := .lst ([.int 1] ++ ((List.range (i + 1)).map fun j => Cl.getD j 0 + Cl.getD (j + 1) 0).map V.int)) nu2)).trans k3 _ _ ef4
        rw [e, nu4] at z; cases z
      refine ⟨u4, _, _, _, rfl, s4.trans ka, f4, ka _ _ ef4, ?_⟩
      rw [upd_same]
      show _ = some (HO.lst ((nextC (dueAt i).2 (i + 1)).map V.int))
      rw [hC]
      unfold nextC
      rw [List.map_append, List.map_append]; rfl
    · rintro σ H' ⟨g, x3, x4, x5, rfl, sm, fg, ef, eg⟩
      refine ⟨_, rfl, _, rfl, f, _, rfl, SqL.of ef, fun p np => kY _ p (sm.trans (same_new np)) (sm.free np) ?_⟩
      rw [upd_same, cut_one, List.map_drop]

theorem numbers_of {r0 r1 : Int} (a0 : 0 ≤ r0) (a1 : r0 < 60) (b0 : 0 ≤ r1) (b1 : r1 < 12) {i : Nat} {x : V} (h : ([.int 1, .int 60, .int (1 + r0), .int (1 + r1)] : List V)[i]? = some x) : ∃ n : Nat, x = .int ((n + 1 : Nat) : Int) ∧ n < 60 := by
  have key : ∀ z : Int, 1 ≤ z → z ≤ 60 → ∃ n : Nat, (V.int z) = .int ((n + 1 : Nat) : Int) ∧ n < 60 := fun z h1 h2 => ⟨(z - 1).toNat, congrArg V.int (by omega), by omega⟩
  match i, h with
  | 0, h => cases h; exact key 1 (by decide) (by decide)
  | 1, h => cases h; exact key 60 (by decide) (by decide)
  | 2, h => cases h; exact key _ (by omega) (by omega)
  | 3, h => cases h; exact key _ (by omega) (by omega)
theorem cut_to {xs : List V} {n : Nat} (h : n ≤ xs.length) : cutV xs none (some (n : Int)) = xs.take n := by
  unfold cutV
  rw [HT.sIx_none, HT.sIx_nat, Nat.min_eq_left h]; rfl
theorem in_false : ∀ k : Nat, inV (.bl true) ((List.replicate k false).map V.bl) = false
  | 0 => rfl
  | k + 1 => by
    show (eqV (.bl false) (.bl true) || inV (.bl true) ((List.replicate k false).map V.bl)) = false
    rw [in_false k]; rfl
theorem flat_bl : ∀ l : List Bool, (l.map V.bl).all flatV = true
  | [] => rfl
  | b :: l => by
    show (flatV (.bl b) && (l.map V.bl).all flatV) = true
    rw [flat_bl l]; rfl
theorem ok_law (T : Txt K mg) {fd : FuncData} (F : FnT K "law" S_law fd) (TB : LamX.TabB base mg (He.cT K ("law", none)).1 (He.cT K ("law", none)).2) : FnOk P w K mg base CX0 8 (He.ga K "law") fd ["_law_script"] (spLaw K (He.cT K ("law", none)).2) := by
  have D_law_all_due : DefOk P w K mg base CX0 1 "_law_all_due" ["_law_most"] spAllDue := ok_law_all_due T
  have D_law_cell_at : DefOk P w K mg base CX0 1 "_law_cell_at" ["_law_script", "_law_k"] (spCellAt K) := ok_law_cell_at T
  have D_law_draw : DefOk P w K mg base CX0 1 "_law_draw" ["_law_cell", "_law_k", "_law_bound"] spDraw := ok_law_draw T
  have D_many : DefOk P w K mg base (L2.CX P w) 5 "many" ["n"] (spMany K (He.ga K "NoNumber")) := ok_many T
  have D_all_many : DefOk P w K mg base (L2.CX P w) 4 "all_many" ["n"] (spAllMany K (He.ga K "NoNumber")) := ok_all_many T
  have D_law_no_number : DefOk P w K mg base CX0 2 "_law_no_number" ["_law_cell", "_law_at", "_law_least", "_law_most"] (spNoNumber K) := ok_law_no_number T
  have D_law_class : PinOkD P w K mg base 1 "_law_class" ["_law_error"] (spClass K) := ok_law_class T
  have HELD : ∀ f ∈ [He.ga K "many", He.ga K "all_many"], HeldX P w K mg base 5 (spBad K (He.ga K "NoNumber") 1 60) f := fun f hf => by
    simp only [List.mem_cons, List.not_mem_nil, or_false] at hf
    cases hf with
    | inl e => rw [e]; exact held_of D_many (by decide) fun vs H Q E ⟨x, z, e, hT, hn, hE⟩ => ⟨x, z, e, hT, fun _ => hE, fun n e2 hl => absurd ⟨_, e2, by omega, by omega⟩ hn⟩
    | inr e => rw [e]; exact held_of D_all_many (by decide) fun vs H Q E ⟨x, z, e, hT, hn, hE⟩ => ⟨x, z, e, hT, fun _ => hE, fun n e2 h1 h2 => absurd ⟨_, e2, by omega, by omega⟩ hn⟩
  obtain ⟨oc, od, dV, kV, doc, pm, an, cdv, ct, osl, rfl, lk, hcd, _, _⟩ := F.ex
  obtain ⟨c0, rfl⟩ := He.codeIn_ref hcd
  have ec : He.codeOf K ("law", none) = c0 := He.codeOf_eq lk rfl
  generalize ePt : (He.cT K ("law", none)).2 = Pt at *
  have eC : (He.cT K ("law", none)).1 = c0 := ec
  rw [eC] at TB
  refine fn_of lk hcd sc_law (fun vs H Q E h => ?_) (fun A outer s H vs Q E hr h => ?_)
  · obtain ⟨a, ns, rfl, _⟩ := h; rfl
  · obtain ⟨a, ns, rfl, hl, hS, hP, q⟩ := h
    have hcode : (envOfC "law" (defScope S_law) s.heap.objs.size (He.ga K "law") (.ref c0)).code = .ref c0 := rfl
    refine ⟨_, PSs.nox (pss_cons (ps_set (i := 1) sc_law.nd rfl (Or.inl rfl) (pe_callD D_law_all_due hr (by rfl) pass0 (pa_cons pe_int pa_nil)))
 (pss_cons (ps_for PassesOwn.never rfl (pi_range1 (by rfl) T.n_range (pa_cons (pe_callB (call_max2 rfl) (by rfl) T.n_max (by decide +kernel) (pa_cons pe_int (pa_cons (pe_callB (call_min2 rfl) (by rfl) T.n_min (by decide +kernel) (pa_cons (pe_callB (lenK K) (by rfl) T.n_len boot_len (pa_cons (pv 0) pa_nil)) (pa_cons pe_int pa_nil))) pa_nil))) pa_nil)) (pg_name (i := 2) sc_law.nd rfl (Or.inl rfl)) (pss_cons (ps_set (i := 3) sc_law.nd rfl (Or.inl rfl) (pe_callD D_law_cell_at hr (by rfl) pass0 (pa_cons (pv 0) (pa_cons (pv 2) pa_nil))))
 (pss_cons (ps_for PassesOwn.never rfl (pi_list (pe_lst (pa_cons pe_int (pa_cons pe_int (pa_cons (pe_op op_add pe_int (pe_callD D_law_draw hr (by rfl) pass0 (pa_cons (pv 3) (pa_cons pe_int (pa_cons pe_int pa_nil))))) (pa_cons (pe_op op_add pe_int (pe_callD D_law_draw hr (by rfl) pass0 (pa_cons (pv 3) (pa_cons pe_int (pa_cons pe_int pa_nil))))) pa_nil)))))) (pg_name (i := 4) sc_law.nd rfl (Or.inl rfl)) (pss_cons (ps_if (PW.pt (pw_or (pt_cmpR op_ne (pe_callD D_many hr (by rfl) passL (pa_cons (pv 4) pa_nil)) (pe_ix (ixLK K) (pv 1) (pe_op op_sub (pv 4) pe_int) (fun _ _ => rfl)) (nomark _)) (pw_or1 (pt_val (pe_callB (isiK K) (by rfl) T.n_isinstance (by decide +kernel) (pa_cons (pe_callD D_many hr (by rfl) passL (pa_cons (pv 4) pa_nil)) (pa_cons (pe_bltn (v := .ty "bool") (u := .type "bool") (by rfl) T.n_bool (by decide +kernel) rfl) pa_nil))))))) (pss_one (ps_ret pe_bl)) pss_nil)
 (pss_one (ps_for PassesOwn.never rfl (pi_range1 (by rfl) T.n_range (pa_cons pe_int pa_nil)) (pg_name (i := 5) sc_law.nd rfl (Or.inl rfl)) (pss_cons (ps_set (i := 6) sc_law.nd rfl (Or.inl rfl) (pe_callD D_all_many hr (by rfl) passL (pa_cons (pv 4) pa_nil)))
 (pss_cons (ps_if (PW.pt (pw_or (pt_not (pt_val (pe_callB (isiK K) (by rfl) T.n_isinstance (by decide +kernel) (pa_cons (pv 6) (pa_cons (pe_bltn (v := .ty "list") (u := .type "list") (by rfl) T.n_list (by decide +kernel) rfl) pa_nil))))) (pw_or (pt_cmpR (neDK K hr.units) (pv 6) (pe_slice (slLK K) (pv 1) po_none (po_some (pv 4))) (nomark _)) (pw_or1 (pt_cmpR (inK K) pe_bl (pe_lc (own := [("_law_one", 9)]) (g := gName 9) (tt := tYes) (by rfl) sc_law.nd (pi_list (pv 6)) (blkOk_by (own := [("_law_one", 9)]) (N := N_law) (sc := defScope S_law) (by decide +kernel)) (fun _ _ _ _ _ => (pg_name (i := 9) sc_law.nd rfl (Or.inl rfl))) (fun _ _ _ _ _ => pts_nil) (fun _ _ _ _ _ => (pe_callB (isiK K) (by rfl) T.n_isinstance (by decide +kernel) (pa_cons (pv 9) (pa_cons (pe_bltn (v := .ty "bool") (u := .type "bool") (by rfl) T.n_bool (by decide +kernel) rfl) pa_nil))))) rfl))))) (pss_one (ps_ret pe_bl)) pss_nil)
 (pss_one (ps_expr (pe_bm PySem.F.plainAttrs_list PySem.F.slot_list_append PySem.F.type_list_append mt_append (pv 6) (pa_cons pe_int pa_nil))))))))))
 (pss_cons (ps_set (i := 7) sc_law.nd rfl (Or.inr rfl) (pe_callD D_law_no_number hr (by rfl) pass0 (pa_cons (pv 3) (pa_cons pe_int (pa_cons pe_int (pa_cons pe_int pa_nil))))))
 (pss_one (ps_for PassesOwn.never rfl (pi_list (pe_lst (pa_cons (pe_glob (v := .ref (He.ga K "many")) rfl T.g_many rfl) (pa_cons (pe_glob (v := .ref (He.ga K "all_many")) rfl T.g_all_many rfl) pa_nil)))) (pg_name (i := 8) sc_law.nd rfl (Or.inr rfl)) (pss_one (ps_if (pt_cmpR op_ne (pe_refused (t := fun E => (tCallM 8 [He.ga K "many", He.ga K "all_many"] (spBad K (He.ga K "NoNumber") 1 60) E (tCons (tVar 7) tNil))) T.d_law_refused T.g_law_refused D_law_class T.g_TurnError TB hr hcode (fun A outer s H E f c' hr2 => (pe_callM (E := E) HELD hr2 rfl (by first | exact Or.inl rfl | exact Or.inr (Or.inl rfl) | exact Or.inr (Or.inr rfl)) (passOut (takes_of rfl rfl rfl rfl)) (pa_cons (pv 7) pa_nil))) (L := LamX.lamS_by (show LamX.lamSB (defScope S_law) _ = true by decide +kernel))) pe_str (nomark _)) (pss_one (ps_ret pe_bl)) pss_nil))))))))
 (pss_one (ps_ret (pe_cmpR (eqDK K hr.units) (pe_lc (own := [("_law_n", 4)]) (g := gName 4) (tt := tYes) (by rfl) sc_law.nd (pi_range2 (by rfl) T.n_range (pa_cons pe_int (pa_cons pe_int pa_nil))) (blkOk_by (own := [("_law_n", 4)]) (N := N_law) (sc := defScope S_law) (by decide +kernel)) (fun _ _ _ _ _ => (pg_name (i := 4) sc_law.nd rfl (Or.inl rfl))) (fun _ _ _ _ _ => pts_nil) (fun _ _ _ _ _ => (pe_callD D_many hr (by rfl) passL (pa_cons (pv 4) pa_nil)))) (pe_lst (pa_cons pe_int (pa_cons pe_int (pa_cons pe_int (pa_cons pe_int (pa_cons pe_int (pa_cons pe_int (pa_cons pe_int (pa_cons pe_int pa_nil))))))))) (nomark _)))))), ?_⟩
    have T0 : LamX.Tabs [(Pt, ("law" : Str) ++ (".<locals>." : Str) ++ ("<lambda>" : Str))] H := fun z hz => by rw [List.mem_singleton.mp hz]; exact LamX.TabS.nil hP
    refine ⟨rfl, fun H1 p s1 fp ep => ?_⟩
    have T1 := tabs_same T0 s1
    have ePs : ∀ {H' : Hp}, LamX.ExtN H1 H' → SqL K H' p (((dueAt 59).1.drop 1).map V.int) := fun e => ext_seq e (SqL.of ep)
    have eAt : ∀ {i : Nat} (hi : i < 60), (((dueAt 59).1.drop 1).map V.int)[i]? = some (.int (rowN i).sum) := fun {i} hi => by rw [List.getElem?_map, many_due_at hi]; rfl
    refine ⟨_, rfl, a, _, rfl, .inl (s1.seq hS), _, _, rfl, _, _, rfl, _, rfl, ?_, ?_, ?_⟩
    · rw [List.length_map]; split <;> (try split) <;> omega
    · rw [List.length_map]; split <;> (try split) <;> omega
    refine for_range (lo := 0) (n := _) (fun i σ H' => (∃ x2 x3 x4 x5 x6 x7 x8 x9 : Option V, σ = [some (.ref a), some (.ref p), x2, x3, x4, x5, x6, x7, x8, x9]) ∧ LamX.ExtN H1 H' ∧ LamX.Tabs [(Pt, ("law" : Str) ++ (".<locals>." : Str) ++ ("<lambda>" : Str))] H') ⟨⟨_, _, _, _, _, _, _, _, rfl⟩, LamX.ExtN.refl _, T1⟩ ?_ ?_
    · rintro i σ H' hi ⟨⟨x2, x3, x4, x5, x6, x7, x8, x9, rfl⟩, e1, t1⟩
      refine ⟨_, rfl, _, rfl, a, ns, i, ?_, ext_seq e1 (s1.seq hS), fun cv => ?_⟩
      · rw [Int.zero_add]; rfl
      refine ⟨_, rfl, cv, 0, 60, rfl, by decide, by decide, by decide, by decide, fun r0 a0 a1 => ⟨_, _, rfl, rfl, ?_⟩⟩
      refine ⟨_, rfl, cv, 1, 12, rfl, by decide, by decide, by decide, by decide, fun r1 b0 b1 => ⟨_, _, rfl, rfl, sz 4, fun l nl => ?_⟩⟩
      have e2 := e1.trans (Same.ext (same_new (o := .lst [.int 1, .int 60, .int (1 + r0), .int (1 + r1)]) nl))
      have t2 := tabs_same t1 (same_new (o := .lst [.int 1, .int 60, .int (1 + r0), .int (1 + r1)]) nl)
      refine ⟨l, rfl, ⟨_, SqL.of upd_same⟩, for_list (xs := [.int 1, .int 60, .int (1 + r0), .int (1 + r1)]) (fun i σ H3 => (∃ x2 x4 x5 x6 x7 x8 x9 : Option V, σ = [some (.ref a), some (.ref p), x2, some (.int cv), x4, x5, x6, x7, x8, x9]) ∧ LamX.ExtN (upd H' l (.lst [.int 1, .int 60, .int (1 + r0), .int (1 + r1)])) H3 ∧ LamX.Tabs [(Pt, ("law" : Str) ++ (".<locals>." : Str) ++ ("<lambda>" : Str))] H3) ⟨⟨_, _, _, _, _, _, _, rfl⟩, LamX.ExtN.refl _, t2⟩ (fun i σ H3 _ ⟨_, e, _⟩ => ext_seq e (SqL.of upd_same)) ?_ ?_⟩
      · rintro i x σ H3 hx ⟨⟨x2, x4, x5, x6, x7, x8, x9, rfl⟩, e3, t3⟩
        obtain ⟨n, rfl, hn⟩ := numbers_of a0 a1 b0 b1 hx
        have f3 := e2.trans e3
        refine ⟨_, rfl, _, true, rfl, thing_int _, fun c => absurd ⟨_, rfl, by omega, by omega⟩ c, fun n' en2 hn2 H4 s4 => ?_⟩
        have en2 := V.int.inj en2
        obtain rfl : n = n' := by omega
        have f4 := f3.trans (Same.ext s4)
        refine ⟨_, rfl, _, rfl, _, _, rfl, rfl, p, _, _, _, rfl, rfl, ePs f4, at_of (j := n) (by omega) (eAt hn), ?_⟩
        refine ne_int ⟨false, rfl, iteF ?_⟩
        refine ⟨_, rfl, _, true, rfl, thing_int _, fun c => absurd ⟨_, rfl, by omega, by omega⟩ c, fun n' en3 hn3 H5 s5 => ?_⟩
        refine ⟨_, _, _, _, _, rfl, .ty "bool", .base (.int _), kit_ib, _, rfl, iteF ?_⟩
        have s35 := s4.trans s5
        -- the two turns
        refine ⟨2, rfl, by decide, by decide, for_range (lo := 0) (n := 2) (fun i σ H6 => (∃ x2 x5 x6 x7 x8 x9 : Option V, σ = [some (.ref a), some (.ref p), x2, some (.int cv), some (.int ((n + 1 : Nat) : Int)), x5, x6, x7, x8, x9]) ∧ LamX.ExtN H5 H6 ∧ LamX.Tabs [(Pt, ("law" : Str) ++ (".<locals>." : Str) ++ ("<lambda>" : Str))] H6) ⟨⟨_, _, _, _, _, _, rfl⟩, LamX.ExtN.refl _, tabs_same t3 s35⟩ ?_ ?_⟩
        · rintro i σ H6 hi ⟨⟨x2, x5, x6, x7, x8, x9, rfl⟩, e6, t6⟩
          refine ⟨_, rfl, _, true, rfl, thing_int _, fun c => absurd ⟨_, rfl, by omega, by omega⟩ c, fun n' en4 h41 h42 H7 f s7 ff ef => ?_⟩
          have en4 := V.int.inj en4
          obtain rfl : n' = n + 1 := by omega
          refine ⟨_, rfl, _, _, _, _, _, rfl, .ty "list", .base (.lst ef), kit_ll, _, rfl, iteF ?_⟩
          have f7 := ((f3.trans (Same.ext s35)).trans e6).trans (Same.ext s7)
          refine ⟨_, rfl, _, rfl, _, rfl, _, rfl, p, _, rfl, ePs f7, fun c nc => ?_⟩
          have cut : cutV (((dueAt 59).1.drop 1).map V.int) none (some ((n + 1 : Nat) : Int)) = (manyL (n + 1)).map V.int := by
            rw [cut_to (by rw [List.length_map, List.length_drop, (due_len 59).1]; omega), ← List.map_take, many_due_take (by omega)]; rfl
          rw [cut]
          have ef8 := (same_new (o := .lst ((manyL (n + 1)).map V.int)) nc) _ _ ef
          refine ne_same (dp_list (SqL.of ef8)) (dp_list (SqL.of upd_same)) (shaped_ints _) (eqv_ints _) ⟨false, rfl, iteF ?_⟩
          -- True in [isinstance(..) ..]
          refine ⟨_, rfl, f, rfl, ⟨_, SqL.of ef8⟩, fun L nL => ?_⟩
          refine lc_list (K := K) (xs := (manyL (n + 1)).map V.int) (fun i H9 => Same (upd H7 c (.lst ((manyL (n + 1)).map V.int))) H9 ∧ H9 L = some (.lst ((List.replicate i false).map V.bl))) ⟨same_new nL, upd_same⟩ (fun i H9 _ ⟨s9, _⟩ => s9.seq (SqL.of ef8)) ?_ ?_
          · rintro i x H9 hx ⟨s9, eL⟩
            obtain ⟨z, hz, rfl⟩ := get_ints hx
            have hlt := (List.getElem?_eq_some_iff.mp hz).1
            rw [manyL_len] at hlt
            refine ⟨rfl, _, rfl, _, _, _, _, _, rfl, .ty "bool", .base (.int _), kit_ib, _, eL, small_n (by rw [List.length_map, List.length_replicate]; omega), same_set s9 nL, ?_⟩
            rw [upd_same, List.replicate_succ', List.map_append]; rfl
          rintro H9 ⟨s9, eL⟩
          refine ⟨L, _, rfl, .inl (SqL.of eL), rfl, flat_bl _, ?_⟩
          refine ⟨false, congrArg V.bl (in_false _), iteF ?_⟩
          have ef9 := s9 _ _ ef8
          have s69 := (s7.trans (same_new nc)).trans s9
          refine ⟨_, rfl, .inl ⟨rfl, _, SqL.of ef9⟩, f, _, _, rfl, rfl, ef9, small_n (by rw [List.length_map, manyL_len]; omega), ?_⟩
          exact ⟨⟨_, _, _, _, _, _, rfl⟩, e6.trans (ext_set (Same.ext s69) ff), tabs_upd (tabs_same t6 s69) ef9⟩
        · rintro σ H6 ⟨⟨x2, x5, x6, x7, x8, x9, rfl⟩, e6, t6⟩
          exact ⟨⟨_, _, _, _, _, _, _, rfl⟩, (e3.trans (Same.ext s35)).trans e6, t6⟩
      · rintro σ H3 ⟨⟨x2, x4, x5, x6, x7, x8, x9, rfl⟩, e3, t3⟩
        refine ⟨_, rfl, cv, 2, 1, 60, rfl, by decide, by decide, by decide, by decide, by decide, by decide, fun bad z H4 s4 hT hbad => ?_⟩
        refine ⟨sz 2, fun l2 nl2 => ?_⟩
        refine ⟨l2, rfl, ⟨_, SqL.of upd_same⟩, for_list (xs := [.ref (He.ga K "many"), .ref (He.ga K "all_many")]) (fun i σ H5 => (∃ x2 x4 x5 x6 x8 x9 : Option V, σ = [some (.ref a), some (.ref p), x2, some (.int cv), x4, x5, x6, some bad, x8, x9]) ∧ LamX.ExtN (upd H4 l2 (.lst [.ref (He.ga K "many"), .ref (He.ga K "all_many")])) H5 ∧ LamX.Tabs [(Pt, ("law" : Str) ++ (".<locals>." : Str) ++ ("<lambda>" : Str))] H5) ⟨⟨_, _, _, _, _, _, rfl⟩, LamX.ExtN.refl _, tabs_same (tabs_same t3 s4) (same_new nl2)⟩ (fun i σ H5 _ ⟨_, e, _⟩ => ext_seq e (SqL.of upd_same)) ?_ ?_⟩
        · rintro i x σ H5 hx ⟨⟨x2, x4, x5, x6, x8, x9, rfl⟩, e5, t5⟩
          obtain ⟨f, rfl, hf⟩ : ∃ f, x = .ref f ∧ f ∈ [He.ga K "many", He.ga K "all_many"] := by
            match i, hx with
            | 0, hx => cases hx; exact ⟨_, rfl, List.mem_cons_self⟩
            | 1, hx => cases hx; exact ⟨_, rfl, List.mem_cons_of_mem _ List.mem_cons_self⟩
          refine ⟨t5, fun H6 e6 t6 => ?_⟩
          refine ⟨f, rfl, hf, _, rfl, _, z, rfl, thing_ext (((Same.ext (same_new nl2)).trans e5).trans e6) hT, hbad, rfl, _, 1, "number", rfl, T.j_NoNumber, rfl, fun H7 s7 => ?_⟩
          dsimp only [tC]
          refine neS_same ?_
          refine ⟨false, rfl, iteF ?_⟩
          exact ⟨⟨_, _, _, _, _, _, rfl⟩, (e5.trans e6).trans (Same.ext s7), tabs_same t6 s7⟩
        · rintro σ H5 ⟨⟨x2, x4, x5, x6, x8, x9, rfl⟩, e5, t5⟩
          exact ⟨⟨_, _, _, _, _, _, _, _, rfl⟩, (((e2.trans e3).trans (Same.ext s4)).trans (Same.ext (same_new nl2))).trans e5, t5⟩
    · rintro σ H2 ⟨⟨x2, x3, x4, x5, x6, x7, x8, x9, rfl⟩, e2, t2⟩
      refine ⟨1, 9, rfl, ⟨by decide, by decide, by decide, by decide⟩, fun D nD => ?_⟩
      refine lc_range (lo := 1) (n := 8) (fun i H3 => Same H2 H3 ∧ H3 D = some (.lst ((manyL i).map V.int))) ⟨same_new nD, upd_same⟩ ?_ ?_
      · rintro i H3 hi ⟨s3, eD⟩
        refine ⟨rfl, _, rfl, _, true, rfl, thing_int _, fun c => absurd ⟨_, rfl, by omega, by omega⟩ c, fun n' en hn H4 s4 => ?_⟩
        have en := V.int.inj en
        obtain rfl : i = n' := by omega
        refine ⟨_, s4 _ _ eD, small_n (by rw [List.length_map, manyL_len]; omega), same_set (s3.trans s4) nD, ?_⟩
        rw [upd_same, manyL_more, List.map_append]; rfl
      rintro H3 ⟨s3, eD⟩
      refine ⟨sz 8, fun w nw => ?_⟩
      have ds2 : manyL 8 = [1, 1, 2, 5, 16, 61, 272, 1385] := by decide
      rw [ds2] at eD
      exact eq_same (d := intsD [1, 1, 2, 5, 16, 61, 272, 1385]) (dp_list (SqL.of ((same_new nw) _ _ eD))) (dp_list (ns := [1, 1, 2, 5, 16, 61, 272, 1385]) (SqL.of upd_same)) (shaped_ints _) (eqv_ints _) (q _)
end
def D_is_whole : He.DefD := ⟨("is_whole", none), "is_whole", "is_whole", defArgs S_is_whole, defBody S_is_whole, defScope S_is_whole, [], []⟩
def D_need_number : He.DefD := ⟨("need_number", none), "need_number", "need_number", defArgs S_need_number, defBody S_need_number, defScope S_need_number, [], []⟩
def D_row_behind : He.DefD := ⟨("row_behind", none), "row_behind", "row_behind", defArgs S_row_behind, defBody S_row_behind, defScope S_row_behind, [], []⟩
def D_rows_to : He.DefD := ⟨("rows_to", none), "rows_to", "rows_to", defArgs S_rows_to, defBody S_rows_to, defScope S_rows_to, [], []⟩
def D_row : He.DefD := ⟨("row", none), "row", "row", defArgs S_row, defBody S_row, defScope S_row, [], []⟩
def D_many : He.DefD := ⟨("many", none), "many", "many", defArgs S_many, defBody S_many, defScope S_many, [], []⟩
def D_all_many : He.DefD := ⟨("all_many", none), "all_many", "all_many", defArgs S_all_many, defBody S_all_many, defScope S_all_many, [], []⟩
def D_law_cell_at : He.DefD := ⟨("_law_cell_at", none), "_law_cell_at", "_law_cell_at", defArgs S_law_cell_at, defBody S_law_cell_at, defScope S_law_cell_at, [], []⟩
def D_law_draw : He.DefD := ⟨("_law_draw", none), "_law_draw", "_law_draw", defArgs S_law_draw, defBody S_law_draw, defScope S_law_draw, [], []⟩
def D_law_no_number : He.DefD := ⟨("_law_no_number", none), "_law_no_number", "_law_no_number", defArgs S_law_no_number, defBody S_law_no_number, defScope S_law_no_number, [], []⟩
def D_law_class : He.DefD := ⟨("_law_class", none), "_law_class", "_law_class", defArgs S_law_class, defBody S_law_class, defScope S_law_class, [], []⟩
def D_law_refused : He.DefD := ⟨("_law_refused", none), "_law_refused", "_law_refused", defArgs S_law_refused, defBody S_law_refused, defScope S_law_refused, [], []⟩
def D_law_all_due : He.DefD := ⟨("_law_all_due", none), "_law_all_due", "_law_all_due", defArgs S_law_all_due, defBody S_law_all_due, defScope S_law_all_due, [], []⟩
def D_law : He.DefD := ⟨("law", none), "law", "law", defArgs S_law, defBody S_law, defScope S_law, [], []⟩
def fn : List He.DefD := [D_is_whole, D_need_number, D_row_behind, D_rows_to, D_row, D_many, D_all_many, D_law_cell_at, D_law_draw, D_law_no_number, D_law_class, D_law_refused, D_law_all_due, D_law]
def fa : List He.Fa := [.glo "is_whole", .glo "need_number", .glo "row_behind", .glo "rows_to", .glo "row", .glo "many", .glo "all_many", .glo "_law_cell_at", .glo "_law_draw", .glo "_law_no_number", .glo "_law_class", .glo "_law_refused", .glo "_law_all_due", .glo "law", .free "isinstance", .free "int", .free "bool", .free "len", .free "sum", .free "range", .free "str", .free "max", .free "min", .free "list", .free "ValueError", .int "MOST_ROWS" 60, .glo "TurnError", .glo "NoOrder", .glo "NoNumber", .glo "NoRow", .glo "NotUpDown", .glo "NoPattern", .glo "NoTree", .glo "NoLoose", .glo "NoRing", .glo "NoFraction", .glo "NoText", .glo "NoDeed", .glo "NoLine", .exc "NoNumber"]
def ex (K : PySem.W.Frag) : Bool := ([(1, "NoNumber")].all fun q => classB K q.1 q.2)
def tf : List He.Defn := [("law", none)]
theorem txt_of {w : World} {h : Heap} {K : PySem.W.Frag} {mg : Str → Option Value} (X : K.In h) (G : h.Ns mainGlobals mg) (c : He.SaysX fa fn [] tf ex w h K) : Txt K mg :=
  { d_is_whole := c.t.d.def_ 0 (d := D_is_whole) rfl, g_is_whole := He.glo_ok X G (c.t.d.fact 0 (f := .glo "is_whole") rfl),
    d_need_number := c.t.d.def_ 1 (d := D_need_number) rfl, g_need_number := He.glo_ok X G (c.t.d.fact 1 (f := .glo "need_number") rfl),
    d_row_behind := c.t.d.def_ 2 (d := D_row_behind) rfl, g_row_behind := He.glo_ok X G (c.t.d.fact 2 (f := .glo "row_behind") rfl),
    d_rows_to := c.t.d.def_ 3 (d := D_rows_to) rfl, g_rows_to := He.glo_ok X G (c.t.d.fact 3 (f := .glo "rows_to") rfl),
    d_row := c.t.d.def_ 4 (d := D_row) rfl, g_row := He.glo_ok X G (c.t.d.fact 4 (f := .glo "row") rfl),
    d_many := c.t.d.def_ 5 (d := D_many) rfl, g_many := He.glo_ok X G (c.t.d.fact 5 (f := .glo "many") rfl),
    d_all_many := c.t.d.def_ 6 (d := D_all_many) rfl, g_all_many := He.glo_ok X G (c.t.d.fact 6 (f := .glo "all_many") rfl),
    d_law_cell_at := c.t.d.def_ 7 (d := D_law_cell_at) rfl, g_law_cell_at := He.glo_ok X G (c.t.d.fact 7 (f := .glo "_law_cell_at") rfl),
    d_law_draw := c.t.d.def_ 8 (d := D_law_draw) rfl, g_law_draw := He.glo_ok X G (c.t.d.fact 8 (f := .glo "_law_draw") rfl),
    d_law_no_number := c.t.d.def_ 9 (d := D_law_no_number) rfl, g_law_no_number := He.glo_ok X G (c.t.d.fact 9 (f := .glo "_law_no_number") rfl),
    d_law_class := c.t.d.def_ 10 (d := D_law_class) rfl, g_law_class := He.glo_ok X G (c.t.d.fact 10 (f := .glo "_law_class") rfl),
    d_law_refused := c.t.d.def_ 11 (d := D_law_refused) rfl, g_law_refused := He.glo_ok X G (c.t.d.fact 11 (f := .glo "_law_refused") rfl),
    d_law_all_due := c.t.d.def_ 12 (d := D_law_all_due) rfl, g_law_all_due := He.glo_ok X G (c.t.d.fact 12 (f := .glo "_law_all_due") rfl),
    d_law := c.t.d.def_ 13 (d := D_law) rfl, g_law := He.glo_ok X G (c.t.d.fact 13 (f := .glo "law") rfl),
    n_isinstance := He.free_ok X G (c.t.d.fact 14 (f := .free "isinstance") rfl),
    n_int := He.free_ok X G (c.t.d.fact 15 (f := .free "int") rfl),
    n_bool := He.free_ok X G (c.t.d.fact 16 (f := .free "bool") rfl),
    n_len := He.free_ok X G (c.t.d.fact 17 (f := .free "len") rfl),
    n_sum := He.free_ok X G (c.t.d.fact 18 (f := .free "sum") rfl),
    n_range := He.free_ok X G (c.t.d.fact 19 (f := .free "range") rfl),
    n_str := He.free_ok X G (c.t.d.fact 20 (f := .free "str") rfl),
    n_max := He.free_ok X G (c.t.d.fact 21 (f := .free "max") rfl),
    n_min := He.free_ok X G (c.t.d.fact 22 (f := .free "min") rfl),
    n_list := He.free_ok X G (c.t.d.fact 23 (f := .free "list") rfl),
    n_ValueError := He.free_ok X G (c.t.d.fact 24 (f := .free "ValueError") rfl),
    c_MOST_ROWS := He.int_ok X G (c.t.d.fact 25 (f := .int "MOST_ROWS" 60) rfl),
    g_TurnError := He.glo_ok X G (c.t.d.fact 26 (f := .glo "TurnError") rfl),
    g_NoOrder := He.glo_ok X G (c.t.d.fact 27 (f := .glo "NoOrder") rfl),
    g_NoNumber := He.glo_ok X G (c.t.d.fact 28 (f := .glo "NoNumber") rfl),
    g_NoRow := He.glo_ok X G (c.t.d.fact 29 (f := .glo "NoRow") rfl),
    g_NotUpDown := He.glo_ok X G (c.t.d.fact 30 (f := .glo "NotUpDown") rfl),
    g_NoPattern := He.glo_ok X G (c.t.d.fact 31 (f := .glo "NoPattern") rfl),
    g_NoTree := He.glo_ok X G (c.t.d.fact 32 (f := .glo "NoTree") rfl),
    g_NoLoose := He.glo_ok X G (c.t.d.fact 33 (f := .glo "NoLoose") rfl),
    g_NoRing := He.glo_ok X G (c.t.d.fact 34 (f := .glo "NoRing") rfl),
    g_NoFraction := He.glo_ok X G (c.t.d.fact 35 (f := .glo "NoFraction") rfl),
    g_NoText := He.glo_ok X G (c.t.d.fact 36 (f := .glo "NoText") rfl),
    g_NoDeed := He.glo_ok X G (c.t.d.fact 37 (f := .glo "NoDeed") rfl),
    g_NoLine := He.glo_ok X G (c.t.d.fact 38 (f := .glo "NoLine") rfl),
    x_NoNumber := (He.exc_ok (c.t.d.fact 39 (f := .exc "NoNumber") rfl)).1, k_NoNumber := (He.exc_ok (c.t.d.fact 39 (f := .exc "NoNumber") rfl)).2.1, b_NoNumber := (He.exc_ok (c.t.d.fact 39 (f := .exc "NoNumber") rfl)).2.2.1, t_NoNumber := (He.exc_ok (c.t.d.fact 39 (f := .exc "NoNumber") rfl)).2.2.2, j_NoNumber := classB_ok (List.all_eq_true.mp (show ([(1, "NoNumber")].all fun q => classB K q.1 q.2) = true from c.more) (1, "NoNumber") (by decide)) }
abbrev R : PySem.W.OpenRow := PySem.W.OpenLaw.row PySem.Challenge.rw_upanddowns_k12_how_many_up_downs
abbrev hk : PySem.W.Hook := He.hookX 4 fa fn [] tf ex
def ob (s : PySem.W.SharedT) : He.AlX := He.obsX 4 fa fn [] tf ex (HandSHeadRun.getT s)
theorem ob_eq (s : PySem.W.SharedT) : ob s = hk.obs s.abs := He.obsX_eq (HandSHeadRun.getT_eq s)
def loose : List PySem.Str := (["TurnError", "NoOrder", "NoNumber", "NoRow", "NotUpDown", "NoPattern", "NoTree", "NoLoose", "NoRing", "NoFraction", "NoText", "NoDeed", "NoLine", "is_whole", "need_number", "row_behind", "rows_to", "row", "many", "all_many", "_law_cell_at", "_law_draw", "_law_no_number", "_law_class", "_law_refused", "_law_all_due", "MOST_ROWS"] : List PySem.Str)
theorem run (w : World) : HandSHeadRun.RunEq R (PySem.W.view R.prog [31]) hk ob 4000 loose w := by
  intro os
  kernel_rfl
theorem law_at {w : World} {h : Heap} {K : PySem.W.Frag} {mg : Str → Option Value} {fa1 : Addr} (X : K.In h) (G : h.Ns mainGlobals mg) (hfa : mg "law" = some (.ref fa1)) (c : He.SaysX fa fn [] tf ex w h K) : LamX.LawAtS PySem.Challenge.rw_upanddowns_k12_how_many_up_downs w K CX0 8 63 "_law_script" mg fa1 h := by
  have T := txt_of X G c
  obtain ⟨fd, F⟩ := T.d_law
  have e := hfa.symm.trans T.g_law
  cases e
  refine ⟨fd, [He.cT K ("law", none)], spLaw K (He.cT K ("law", none)).2, fun p hp => ?_, fun p hp => ?_, fun p hp => ?_, fun s u => F.bindsA (ps := ["_law_script"]) (fun _ _ _ _ _ _ us hl => match us, hl with | [_], _ => rfl) s [u] rfl, fun H a ns hl _ hT hS => ⟨a, ns, rfl, hl, hS, hT _ List.mem_cons_self, fun _ => rfl⟩, fun base _ _ TB => ok_law T F (TB _ List.mem_cons_self)⟩
  · rw [List.mem_singleton.mp hp]; exact c.empty _ List.mem_cons_self
  · rw [List.mem_singleton.mp hp]; exact c.out _ List.mem_cons_self
  · rw [List.mem_singleton.mp hp]; exact PySem.W.codeHd_of_K X (c.hd _ List.mem_cons_self)
end K12
open PySem PySem.W PySem.Calls PyProof.Rows
theorem PySem.Challenge.cw_upanddowns_k12_how_many_up_downs_holds : PySem.Challenge.rw_upanddowns_k12_how_many_up_downs.Holds := by
  w_on; o_law
  refine HandSHeadRun.head_any (r := OpenLaw.row PySem.Challenge.rw_upanddowns_k12_how_many_up_downs) (q := view (OpenLaw.row PySem.Challenge.rw_upanddowns_k12_how_many_up_downs).prog [31]) (H := K12.hk) (ob := K12.ob) (M := 4000) (loose := K12.loose) (d := HandSHeadRun.topDef (OpenLaw.row PySem.Challenge.rw_upanddowns_k12_how_many_up_downs).prog 31) (kwd := []) K12.ob_eq
    (by kernel_rfl) (fun s => by kernel_rfl) K12.run (by kernel_rfl) (by kernel_rfl) (by kernel_rfl) (by rfl) (by first | assumption | decide +kernel) (by decide +kernel) ⟨rfl, rfl, rfl, rfl, rfl, by decide +kernel⟩ ?hw ?hc
  case hw => w_witness2
  case hc =>
    refine LamX.walk_ofTsE (l := PySem.Challenge.rw_upanddowns_k12_how_many_up_downs) (n := 63) (k := 8) (x := "_law_script") (CX := fun _ => L2.CX0) rfl (by decide) (by kernel_rfl) ⟨rfl, by decide, by decide⟩ ?F (fun _ _ _ _ _ z => z)
    intro w mg fa h Y G hmg0
    obtain ⟨K, KX, c⟩ := Y
    have hmg : mg ("law" : PySem.Str) = some (.ref fa) := by
      have e : (HandSHeadRun.topDef (OpenLaw.row PySem.Challenge.rw_upanddowns_k12_how_many_up_downs).prog 31).name = ("law" : PySem.Str) := by kernel_rfl
      rw [← e]
      exact hmg0
    exact ⟨K, KX, K12.law_at KX G hmg c⟩

