import PyProof.Rows.All
import Wide.All
import OpenK.AllK
import Wide.FinOn
import PyProof.EqAt
import PyProof.EqKinds
import PyProof.TupleCall
import KE.KLam
import HandS.ForMost
import HandS.Exc
import HandS.TryOnly
import HandS.ExcOwn
import HandS.WordsExc
import HandS.Lambda
import HandS.HotCalls
import HandS.IsInst
import HandS.ExcIs
import HandS.RaiseMore
import HandS.FStr
import HandS.Style
import HandS.Wide
import HandS.Defaults
import HandS.CallLocal
import HandS.Head2
import HandS.HeadHook4
import HandS.HeadWalk
import HandS.SortInts
import HandS.TupSets
import HandS.TupAny
import HandS.AnyAll
import HandS.JoinGen
import PyProof.GenCompD
import HandS.Nested
import HandS.Strs
import PyProof.TupleOfSeq
import HandS.SetFor
import HandS.Conv
import KE.KRevSl
import KE.GoesZip
import KE.GoesMore
import HandS.Zip
import HandS.Text
import PyProof.EnumMake
import PyProof.Draws
import PySem.Challenge.RW_upanddowns_k03_orders_turned
set_option Elab.async false
set_option linter.all false
set_option maxRecDepth 100000
set_option maxHeartbeats 2000000
namespace Up
open PySem PySem.Spec PyProof.Rows L2
/-! ### a def of the text, told by its name -/
structure DefOk (P : Program) (w : World) (K : PySem.W.Frag) (mg : Str → Option Value) (base : Heap) (CX : CXT) (k : Nat) (x : Str) (ps : List Str) (sp : Sp) : Prop where
  gl : mg x = some (.ref (He.ga K x))
  kp : PySem.W.keepIn K (.ref (He.ga K x)) = true
  ex : ∃ fd, FnOk P w K mg base CX k (He.ga K x) fd ps sp ∧ Binds K fd ps []
theorem pe_callD {X : Cx} {CX : CXT} {k j : Nat} {x : Str} {ps : List Str} {sp : Sp} {E : XK} {e : Expr} {es : List Expr} {t : TA} {p pos : Pos} (D : DefOk X.prog X.w X.K X.mg X.base CX k x ps sp) (hr : Room j X.A) (hg : Gl X x) (hx : Passes CX X E) (ha : PA X (e :: es) t)
    (hj : k ≤ j := by decide) (hdb : (x == ("__debug__" : Str)) = false := by decide) (he : starEach (e :: es) X.env = (false, eval e X.env) :: starEach es X.env := by rfl) (hpl : (backTo pos (starEach es X.env)).any (·.1) = false := by rfl) :
    PE X (.Call (.Name x p) (e :: es) [] pos) (tCall sp [] E t) := by
  obtain ⟨fd, F, b⟩ := D.ex
  exact pe_call F (hr.mono hj) hg D.gl D.kp b .nil hx ha hdb he hpl
abbrev FnT (K : PySem.W.Frag) (x : Str) (st : Stmt) (fd : FuncData) : Prop := FunD K x x (defArgs st) (defBody st) (defScope st) [] [] (He.ga K x) fd
theorem def_of {P : Program} {w : World} {K : PySem.W.Frag} {mg : Str → Option Value} {base : Heap} {CX : CXT} {k : Nat} {x : Str} {ps : List Str} {sp : Sp} {st : Stmt} (d : ∃ fd, FnT K x st fd) (g : mg x = some (.ref (He.ga K x)))
    (hb : ∀ (kV doc pm : Value) (an : Option Addr) (cdv ct : Value) (us : List Value), us.length = ps.length → bindArgs (PySem.W.fnOf x x (defArgs st) (defBody st) (defScope st) .none kV doc pm an cdv ct) ⟨us, []⟩ = pure (ps.zip us))
    (h : ∀ fd, FnT K x st fd → FnOk P w K mg base CX k (He.ga K x) fd ps sp) : DefOk P w K mg base CX k x ps sp := by
  obtain ⟨fd, F⟩ := d
  exact ⟨g, F.kp, fd, h fd F, F.bindsN hb⟩
theorem passOut {X : Cx} {E : XK} (tk : Takes X (fun cls d _ H => E cls d H)) : Passes (L2.CX X.prog X.w) X E := passes_call tk fun _ _ _ _ h => h
theorem sz (n : Nat) (h : n ≤ 1000 := by decide) : n ≤ sizeLine := Nat.le_trans h (by decide)
theorem szl (n : Nat) (h : n ≤ 1000 := by decide) : n < sizeLine := Nat.lt_of_le_of_lt h (by decide)
/-! ### rules with the written part K told apart (for blocks, whose context is a term) -/
def rLenQ (K : PySem.W.Frag) : List V → Hp → VK → Prop := fun xs H Q => ∃ p ys, xs = [.ref p] ∧ (SqL K H p ys ∨ SqT K H p ys) ∧ Q (.int ys.length) H
theorem lenK {X : Cx} (K : PySem.W.Frag) (h : X.K = K := by rfl) : CallR X (.builtin "len") (rLenQ K) := by subst h; exact call_len_seq
theorem ixLK {X : Cx} (K : PySem.W.Frag) (h : X.K = K := by rfl) : IxR X (rIxL K) := by subst h; exact ix_list
theorem ixTK {X : Cx} (K : PySem.W.Frag) (h : X.K = K := by rfl) : IxR X (rIxT K) := by subst h; exact ix_tup
theorem revLK {X : Cx} (K : PySem.W.Frag) {e : Expr} {te : TE} {k : Nat} {p1 p2 p3 pos : Pos} (he : PE X e te) (h : X.K = K := by rfl) : PE X (.Subscript e (.Slice none none (some (.UnaryOp .USub (.Constant (.int 1) k p1) p2)) p3) pos) (tRevL K te) := by subst h; exact pe_revL he
theorem slLK {X : Cx} (K : PySem.W.Frag) (h : X.K = K := by rfl) : SlR X (rSlL K) := by subst h; exact sl_list
theorem slTK {X : Cx} (K : PySem.W.Frag) (h : X.K = K := by rfl) : SlR X (rSlT K) := by subst h; exact sl_tup
theorem isiK {X : Cx} (K : PySem.W.Frag) (h : X.K = K := by rfl) : CallR X (.builtin "isinstance") (rIsi K) := by subst h; exact call_isi
theorem sumK {X : Cx} (K : PySem.W.Frag) (hc : X.calm = true) (h : X.K = K := by rfl) : CallR X (.builtin "sum") (rSum K) := by subst h; exact cr_sum hc
theorem anyK {X : Cx} (K : PySem.W.Frag) (hc : X.calm = true) (h : X.K = K := by rfl) : CallR X (.builtin "any") (rAny K) := by subst h; exact cr_any hc
theorem allK {X : Cx} (K : PySem.W.Frag) (hc : X.calm = true) (h : X.K = K := by rfl) : CallR X (.builtin "all") (rAll K) := by subst h; exact cr_all hc
theorem eqDK {X : Cx} (K : PySem.W.Frag) (hu : X.A.units + 64 < cLine) (h : X.K = K := by rfl) : OpR X (compareOp .Eq) (rEqD K) := by subst h; exact op_eqD hu
theorem neDK {X : Cx} (K : PySem.W.Frag) (hu : X.A.units + 64 < cLine) (h : X.K = K := by rfl) : OpR X (compareOp .NotEq) (rNeD K) := by subst h; exact op_neD hu
theorem inK {X : Cx} (K : PySem.W.Frag) (h : X.K = K := by rfl) : OpR X (compareOp .In) (rIn K false) := by subst h; exact op_in_seq
theorem notInK {X : Cx} (K : PySem.W.Frag) (h : X.K = K := by rfl) : OpR X (compareOp .NotIn) (rIn K true) := by subst h; exact op_notIn_seq
theorem catTK {X : Cx} (K : PySem.W.Frag) (h : X.K = K := by rfl) : OpR X (binaryOp .Add) (rCatT K) := by subst h; exact op_catT
/-! ### heaps -/
theorem same_new {H : Hp} {p : Addr} {o : HO} (h : H p = none) : Same H (upd H p o) := fun b x e => by
  rw [upd_ne (ne_of_none e h)]; exact e
theorem Same.ext {H H' : Hp} (s : Same H H') : LamX.ExtN H H' := fun b o h _ => s b o h
theorem ext_seq {K : PySem.W.Frag} {H H' : Hp} {a : Addr} {xs : List V} (e : LamX.ExtN H H') (h : SqL K H a xs) : SqL K H' a xs := by
  rcases h with (h | ⟨o, h⟩) | h
  · exact .inl (.inl (e _ _ h (fun _ z => by cases z)))
  · exact .inl (.inr ⟨o, e _ _ h (fun _ z => by cases z)⟩)
  · exact .inr h
theorem ext_set {H H' : Hp} {p : Addr} {o : HO} (e : LamX.ExtN H H') (n : H p = none) : LamX.ExtN H (upd H' p o) := fun b u h z => by
  rw [upd_ne (ne_of_none h n)]; exact e b u h z
theorem same_set {H H' : Hp} {p : Addr} {o : HO} (e : Same H H') (n : H p = none) : Same H (upd H' p o) := fun b u h => by
  rw [upd_ne (ne_of_none h n)]; exact e b u h
theorem tabs_same {T : List (Addr × Str)} {H H' : Hp} (t : LamX.Tabs T H) (s : Same H H') : LamX.Tabs T H' := t.ext s
/-- a list that no table and no code object stands at is changed -/
theorem tabs_upd {T : List (Addr × Str)} {H : Hp} {p : Addr} {xs : List V} {o : HO} (t : LamX.Tabs T H) (n : H p = some (.lst xs)) : LamX.Tabs T (upd H p o) := fun q hq => by
  obtain ⟨ps, h1, h2, h3⟩ := t q hq
  refine ⟨ps, ?_, h2, fun pos cv hc => ?_⟩
  · rw [upd_ne (ne_of h1 n (by intro z; cases z))]; exact h1
  · obtain ⟨c, e1, e2⟩ := h3 pos cv hc
    refine ⟨c, e1, ?_⟩
    rw [upd_ne (ne_of e2 n (by intro z; unfold LamX.CodeO at z; cases z))]; exact e2
/-! ### a def called while an exception is handled: the exception's object p stands -/
structure FnPin (P : Program) (w : World) (K : PySem.W.Frag) (mg : Str → Option Value) (base : Heap) (k : Nat) (f : Addr) (fd : FuncData) (ps : List Str) (sp : Addr × Obj → Sp) : Prop where
  len : ∀ p vs H Q E, sp p vs H Q E → vs.length = ps.length
  run : ∀ A outer s H args us vs Q E p, L2H.RoomH k A → L2H.PinOk outer H s p → Env0 P w K mg base A outer s H → BindsTo s fd args (ps.zip us) → Vals vs us → sp p vs H Q E →
    codeAny (model P w) A (.call (.ref f) args) (CR CX0 outer P w H s Q E) s
theorem pin_of {P : Program} {w : World} {K : PySem.W.Frag} {mg : Str → Option Value} {base : Heap} {k : Nat} {f : Addr} {x : Str} {prm : Arguments} {bd : List Stmt} {sc : Scope} {fd : FuncData} {N ps : List Str} {sp : Addr × Obj → Sp}
    (F : FunD K x x prm bd sc [] [] f fd) (S : FnScope N ps sc) (len : ∀ p vs H Q E, sp p vs H Q E → vs.length = ps.length)
    (hb : ∀ (cd : Value) (A : Around) (outer : List Env) (s : Shared) (H : Hp) (vs : List V) (Q : VK) (E : XK) (p : Addr × Obj), L2H.RoomH k (A.deeper (envOfC x sc s.heap.objs.size f cd)) → sp p vs H Q E →
      ∃ t, PSs (L2H.cxH CX0 P w K mg base N x sc f cd A outer s H E p) bd t ∧ t { nx := fun _ H' => Q .non H', rt := Q } (start N vs) H) : FnPin P w K mg base (k + 1) f fd ps sp := by
  obtain ⟨oc, od, dV, kV, doc, pm, an, cd, ct, osl, rfl, lk, hcd, _, _⟩ := F.ex
  refine ⟨len, ?_⟩
  intro A outer s H args us vs Q E p room pin e0 bind r hsp
  have inK : K.In s.heap := e0.mod.kin.keeps (fun b o e => (e0.bs b o e).1)
  have nolim : s.heap.NoLimit := e0.mod.nolimit.keeps (fun b o e => (e0.bs b o e).1)
  have kinds : ∀ y ∈ ps.zip us, sc.names.lookup y.1 = some .local ∨ (sc.names.lookup y.1 = some .cell ∧ ((cellsFrom (s.heap.objs.size + 1) sc.names []).lookup y.1).isSome = true) := by
    rintro ⟨n, v⟩ hy
    cases S.par n (List.of_mem_zip hy).1 with
    | inl q => exact Or.inl q
    | inr q => exact Or.inr ⟨q, PySem.W.cellsFrom_some _ _ _ (Or.inl q)⟩
  apply codeAny_call_function room.depth (inK _ _ lk) rfl S.co S.gen rfl (PySem.W.codeRec_of inK hcd)
  apply bind
  apply wpAny_newFunctionEnv_cells S.kind kinds
  intro env he s1 x1
  subst he
  refine ⟨nolim.keeps x1.toInCall.keep, codeAny_func ?_⟩
  obtain ⟨t, ht, q0⟩ := hb cd A outer s H vs Q E p (room.deeper _) hsp
  have I := L2H.inv_startH (CX := CX0) (P := P) (mg := mg) (E := E) S pin e0 (len _ _ _ _ _ hsp) r x1
  apply wpAny_mono (ht.run [] s1 (start N vs) H _ I q0)
  · intro fl s' hs
    cases fl with
    | ret u => obtain ⟨v, _, H', J, rv, z⟩ := hs; exact ⟨v, H', J.os, J.bare, J.base, J.hok, rv, z⟩
    | next => obtain ⟨_, H', J, z⟩ := hs; exact ⟨.non, H', J.os, J.bare, J.base, J.hok, rfl, z⟩
    | brk => obtain ⟨_, _, _, z⟩ := hs; exact z.elim
    | cont => obtain ⟨_, _, _, z⟩ := hs; exact z.elim
  · intro e s' hs
    exact hs
/-- such a def told by its name -/
structure PinOkD (P : Program) (w : World) (K : PySem.W.Frag) (mg : Str → Option Value) (base : Heap) (k : Nat) (x : Str) (ps : List Str) (sp : Addr × Obj → Sp) : Prop where
  gl : mg x = some (.ref (He.ga K x))
  kp : PySem.W.keepIn K (.ref (He.ga K x)) = true
  ex : ∃ fd, FnPin P w K mg base k (He.ga K x) fd ps sp ∧ Binds K fd ps []
theorem pindef_of {P : Program} {w : World} {K : PySem.W.Frag} {mg : Str → Option Value} {base : Heap} {k : Nat} {x : Str} {ps : List Str} {sp : Addr × Obj → Sp} {st : Stmt} (d : ∃ fd, FnT K x st fd) (g : mg x = some (.ref (He.ga K x)))
    (hb : ∀ (kV doc pm : Value) (an : Option Addr) (cdv ct : Value) (us : List Value), us.length = ps.length → bindArgs (PySem.W.fnOf x x (defArgs st) (defBody st) (defScope st) .none kV doc pm an cdv ct) ⟨us, []⟩ = pure (ps.zip us))
    (h : ∀ fd, FnT K x st fd → FnPin P w K mg base k (He.ga K x) fd ps sp) : PinOkD P w K mg base k x ps sp := by
  obtain ⟨fd, F⟩ := d
  exact ⟨g, F.kp, fd, h fd F, F.bindsN hb⟩
def tCallP (sp : Addr × Obj → Sp) (q : Addr × Obj) (E : XK) (t : TA) : TE := fun σ H Q => t σ H fun vs H1 => sp q vs H1 Q E
theorem pe_callP {X : Cx} {k : Nat} {x : Str} {ps : List Str} {sp : Addr × Obj → Sp} {E : XK} {e : Expr} {es : List Expr} {t : TA} {p pos : Pos} {q : Addr × Obj} (D : PinOkD X.prog X.w X.K X.mg X.base k x ps sp) (hr : L2H.RoomH k X.A) (hq : q ∈ X.pn) (hg : Gl X x) (ha : PA X (e :: es) t)
    (hdb : (x == ("__debug__" : Str)) = false := by decide) (he : starEach (e :: es) X.env = (false, eval e X.env) :: starEach es X.env := by rfl) (hpl : (backTo pos (starEach es X.env)).any (·.1) = false := by rfl) :
    PE X (.Call (.Name x p) (e :: es) [] pos) (tCallP sp q E t) := by
  obtain ⟨fd, F, hb⟩ := D.ex
  constructor
  intro pins s σ H Q I h
  apply wpAny_Call_Name_kw
  apply ld_glob I hg D.gl _ hdb
  refine PySem.W.callWith_K (h₀ := X.base) I.ok.mod.kin D.kp (thn (ha.run pos pins s σ H _ I h) ?_) he hpl
  rintro us s1 ⟨vs, H1, I1, r, z⟩
  refine ⟨I1.kIn, ?_⟩
  have hl : us.length = ps.length := r.length ▸ F.len _ _ _ _ _ z
  have b := hb s1 us I1.kIn (by rw [List.append_nil]; exact hl)
  rw [List.append_nil] at b
  obtain ⟨p1, p2, p3, p4, p5⟩ := I1.pin q (List.mem_append_left _ hq)
  have pin : L2H.PinOk X.stack H1 s1 q := by
    refine ⟨p1, p2, fun hm => ?_, p5⟩
    cases List.mem_cons.mp (I1.stkSub q.1 hm) with
    | inl z => exact p3 z
    | inr z => exact p4 z
  apply wpAny_call
  apply codeAny_mono (F.run X.A X.stack s1 H1 ⟨us, []⟩ us vs Q E q hr pin I1.env0 b r z)
  intro rr s' hq'
  cases rr with
  | error e => exact (show False from hq').elim
  | ok fl =>
    cases fl with
    | ret u => exact I1.after hq'
    | next => exact False.elim hq'
    | brk => exact False.elim hq'
    | cont => exact False.elim hq'
theorem roomH_mark {k : Nat} {A : Around} {v : Option Value} (r : Room k A) : L2H.RoomH k (A.mark v) := ⟨r.dp, r.un⟩
/-! ### isinstance of such an exception; count in a list of flat things -/
theorem call_isPin {X : Cx} {D : Addr} {q : Addr × Obj} (C : ExcC X.K D) (hz : Zc (.ref D) none q.2) (hf : ∃ vs, q.2.data = .fields vs) (hm : q ∈ X.pn) : CallR X (.builtin "isinstance") (rIsE X.K D q.1) := by
  intro pins s σ H xs us Q I r h
  obtain ⟨c, cv, b, rfl, hcv, e, z⟩ := h
  obtain ⟨u1, u2, rfl, r1, r2⟩ := vals2 r
  obtain rfl : u1 = Value.ref q.1 := r1
  obtain rfl := hcv _ r2
  have hget := (I.pin q (List.mem_append_left _ hm)).1
  obtain ⟨vs, hv⟩ := hf
  have J : PySem.W.InstAt s.heap q.1 q.2 D none := by
    obtain ⟨qa, oc, od, dt, sl⟩ := q
    obtain ⟨z1, z2⟩ := hz
    simp only at z1 z2 hv
    subst z1 z2 hv
    exact ⟨hget, rfl, rfl, trivial⟩
  refine PySem.W.kia_one (PySem.W.handS_kitx_exc C.hg C.hk C.hs C.hd C.ha C.hn C.ht C.hm) I.kIn J e (fun y => nomatch y) ?_
  exact fun tk => ⟨.bl b, H, I.kept (t' := tk) (fun _ _ y => y), rfl, z⟩
theorem countP_eqU {y : V} : ∀ {ys : List V} {us : List Value}, Vals ys us → ys.all flatV = true → us.countP (eqU y) = ys.countP fun z => eqV z y
  | [], _, r, _ => by cases r; rfl
  | z :: zs, _, r, f => by
    cases r with
    | cons r1 r2 =>
      rw [List.all_cons, Bool.and_eq_true] at f
      rw [List.countP_cons, List.countP_cons, countP_eqU r2 f.2, eqU_of r1 f.1]
def rCountF (K : PySem.W.Frag) : V → List V → Hp → VK → Prop := fun x xs H Q => ∃ (a : Addr) (ys : List V) (y : V), x = .ref a ∧ xs = [y] ∧ SqL K H a ys ∧ flatV y = true ∧ ys.all flatV = true ∧ Q (.int ((ys.countP fun z => eqV z y : Nat) : Int)) H
theorem mt_countF {X : Cx} : MtR X "list.count" (rCountF X.K) := by
  intro pins s σ H x xs v us Q I rx rxs h
  obtain ⟨a, ys, y, rfl, rfl, hs, fy, fys, q⟩ := h
  obtain rfl : v = Value.ref a := rx
  obtain ⟨u, rfl, ru⟩ := rxs.one
  obtain ⟨its, rv, ⟨⟨cls, dd, data, sl⟩, n, ho, hc, hdn, hd⟩, hlen⟩ := I.list hs
  simp only at hc hd
  subst hc hd
  refine call_meets PySem.F.slot_list_count ⟨_, ho, rfl⟩ PySem.F.entry_list_count (PySem.F.args_list_count_2 _ _) (SeqAt.list_countAt a its.toArray n dd sl u (eqU y)) ⟨ho, fun u' hu' => mem_eqAt ru fy rv fys u' (by simpa using hu'), ?_⟩
  have ec : its.toArray.toList.countP (eqU y) = ys.countP fun z => eqV z y := by simpa using countP_eqU rv fys
  exact ⟨.int ((ys.countP fun z => eqV z y : Nat) : Int), H, I.tok _, ⟨s.toks, by rw [← ec]⟩, q⟩
/-! ### the refusals: which class an exception is of -/
def kinds : List Str := ["NoOrder", "NoNumber", "NoRow", "NotUpDown", "NoPattern", "NoTree", "NoRing", "NoText", "NoDeed", "NoLine", "NoLoose", "NoFraction"]
def words : List Str := ["order", "number", "line of numbers", "updown", "pattern", "tree", "ring", "text", "deed"]
def words2 : List Str := ["line", "loose", "fraction"]
def kindsAt (j : Nat) : List V := [.bl (decide (0 = j)), .bl (decide (1 = j)), .bl (decide (2 = j))] ++ [.bl (decide (3 = j)), .bl (decide (4 = j)), .bl (decide (5 = j))] ++ [.bl (decide (6 = j)), .bl (decide (7 = j)), .bl (decide (8 = j))] ++ [.bl (decide (9 = j)), .bl (decide (10 = j)), .bl (decide (11 = j))]
theorem kinds_count : ∀ j, j < 12 → (kindsAt j).countP (fun z => eqV z (.bl true)) = 1 := by decide
theorem kinds_here : ∀ j, j < 12 → (kindsAt j)[j]? = some (.bl true) := by decide
theorem kinds_ahead : ∀ j, j < 12 → ∀ m, m < j → (kindsAt j)[m]? = some (.bl false) := by decide
theorem kinds_flat (j : Nat) : (kindsAt j).all flatV = true := rfl
structure ClassIs (K : PySem.W.Frag) (C : Addr) (j : Nat) : Prop where
  lt : j < 12
  exc : ExcC K C
  turn : PySem.W.kitOne K (.ref C) (.ref (He.ga K "TurnError")) = some true
  val : PySem.W.kitOne K (.ref C) (.type "ValueError") = some true
  caught : PySem.W.exmOne K (.ref C) (.ref (He.ga K "TurnError")) = some true
  each : ∀ i x, kinds[i]? = some x → PySem.W.kitOne K (.ref C) (.ref (He.ga K x)) = some (decide (i = j))
def excB (K : PySem.W.Frag) (D : Addr) : Bool := He.eqO (PySem.W.findIn K (.ref D) "__getattribute__") (some (some (.builtin "BaseException.__getattribute__"))) && (He.eqO (PySem.W.findIn K (.ref D) "__getattr__") (some none) && (decide (PySem.W.subIn K (.ref D) (.type "BaseException") = some true) &&
  (PySem.W.hasDictIn K D && (He.eqO (PySem.W.findIn K (.ref D) "__class__") (some (some (.builtin "object.__class__"))) && (He.eqO (PySem.W.specialIn K (.builtin "object.__class__") "__get__") (some (some (.builtin "getset_descriptor.__get__"))) && (decide (PySem.W.takesIn K (.builtin "object.__class__") = some true) && decide (PySem.W.mroIn K D (.type "object") = some true)))))))
theorem excB_ok {K : PySem.W.Frag} {D : Addr} (h : excB K D = true) : ExcC K D := by
  obtain ⟨h1, h⟩ := He.ba h
  obtain ⟨h2, h⟩ := He.ba h
  obtain ⟨h3, h⟩ := He.ba h
  obtain ⟨h4, h⟩ := He.ba h
  obtain ⟨h5, h⟩ := He.ba h
  obtain ⟨h6, h⟩ := He.ba h
  obtain ⟨h7, h8⟩ := He.ba h
  exact ⟨He.eqO_ok h1, He.eqO_ok h2, of_decide_eq_true h3, h4, He.eqO_ok h5, He.eqO_ok h6, of_decide_eq_true h7, of_decide_eq_true h8⟩
def classB (K : PySem.W.Frag) (j : Nat) (x : Str) : Bool := decide (j < 12) && (excB K (He.ga K x) && (decide (PySem.W.kitOne K (.ref (He.ga K x)) (.ref (He.ga K "TurnError")) = some true) && (decide (PySem.W.kitOne K (.ref (He.ga K x)) (.type "ValueError") = some true) && (decide (PySem.W.exmOne K (.ref (He.ga K x)) (.ref (He.ga K "TurnError")) = some true) &&
  (List.range 12).all fun i => decide (PySem.W.kitOne K (.ref (He.ga K x)) (.ref (He.ga K (kinds.getD i ""))) = some (decide (i = j)))))))
theorem classB_ok {K : PySem.W.Frag} {j : Nat} {x : Str} (h : classB K j x = true) : ClassIs K (He.ga K x) j := by
  obtain ⟨h1, h⟩ := He.ba h
  obtain ⟨h2, h⟩ := He.ba h
  obtain ⟨h3, h⟩ := He.ba h
  obtain ⟨h4, h⟩ := He.ba h
  obtain ⟨h5, h6⟩ := He.ba h
  refine ⟨of_decide_eq_true h1, excB_ok h2, of_decide_eq_true h3, of_decide_eq_true h4, of_decide_eq_true h5, fun i x' e => ?_⟩
  have hi : i < 12 := (List.getElem?_eq_some_iff.mp e).1
  have z := of_decide_eq_true (List.all_eq_true.mp h6 i (List.mem_range.mpr hi))
  have ex : kinds.getD i "" = x' := by rw [List.getD_eq_getElem?_getD, e]; rfl
  rw [ex] at z
  exact z
/-! ### a thing of whatever kind -/
def tyNames : List String := ["int", "bool", "NoneType", "str", "tuple", "list", "dict"]
theorem kit_int : ∀ ty ∈ tyNames, kitB ty "int" = some (ty == "int" || ty == "bool") := by decide +kernel
theorem kit_bool : ∀ ty ∈ tyNames, kitB ty "bool" = some (ty == "bool") := by decide +kernel
theorem kit_whole : ∀ ty ∈ tyNames, (ty == "int" || ty == "bool") = true → (!(ty == "bool")) = (ty == "int") := by decide
theorem kit_str : ∀ ty ∈ tyNames, kitB ty "str" = some (ty == "str") := by decide +kernel
theorem kit_tuple : ∀ ty ∈ tyNames, kitB ty "tuple" = some (ty == "tuple") := by decide +kernel
theorem kit_list : ∀ ty ∈ tyNames, kitB ty "list" = some (ty == "list") := by decide +kernel
/-- b: it is a whole number -/
structure Thing (K : PySem.W.Frag) (H : Hp) (x : V) (b : Bool) : Prop where
  ex : ∃ ty, TyX K H x (.type ty) ∧ ty ∈ tyNames ∧ (ty == "int") = b
  int : b = true → ∃ i, x = .int i
  non : b = false → ∀ i, x ≠ .int i
theorem thing_int {K : PySem.W.Frag} {H : Hp} (i : Int) : Thing K H (.int i) true := ⟨⟨"int", .base (.int i), by decide, rfl⟩, fun _ => ⟨i, rfl⟩, fun z => nomatch z⟩
theorem thing_bl {K : PySem.W.Frag} {H : Hp} (c : Bool) : Thing K H (.bl c) false := ⟨⟨"bool", .base (.bl c), by decide, rfl⟩, (fun z => nomatch z), fun _ _ z => nomatch z⟩
theorem thing_non {K : PySem.W.Frag} {H : Hp} : Thing K H .non false := ⟨⟨"NoneType", .base .non, by decide, rfl⟩, (fun z => nomatch z), fun _ _ z => nomatch z⟩
theorem thing_str {K : PySem.W.Frag} {H : Hp} (x : Str) : Thing K H (.str x) false := ⟨⟨"str", .base (.str x), by decide, rfl⟩, (fun z => nomatch z), fun _ _ z => nomatch z⟩
theorem thing_tup {K : PySem.W.Frag} {H : Hp} {a : Addr} {xs : List V} (e : H a = some (.tup xs)) : Thing K H (.ref a) false := ⟨⟨"tuple", .base (.tup e), by decide, rfl⟩, (fun z => nomatch z), fun _ _ z => nomatch z⟩
theorem thing_lst {K : PySem.W.Frag} {H : Hp} {a : Addr} {xs : List V} (e : H a = some (.lst xs)) : Thing K H (.ref a) false := ⟨⟨"list", .base (.lst e), by decide, rfl⟩, (fun z => nomatch z), fun _ _ z => nomatch z⟩
theorem thing_dic {K : PySem.W.Frag} {H : Hp} {a : Addr} {xs : List (Key × V)} (e : H a = some (.dK xs)) : Thing K H (.ref a) false := ⟨⟨"dict", .base (.dK e), by decide, rfl⟩, (fun z => nomatch z), fun _ _ z => nomatch z⟩
def NumOk (x : V) (a b : Int) : Prop := ∃ i, x = .int i ∧ a ≤ i ∧ i ≤ b
/-! ### data -/
def intsD (ns : List Int) : PyData := .list (ns.map PyData.int)
theorem dp_ints {K : PySem.W.Frag} {H : Hp} : ∀ ns : List Int, DpAll K H (ns.map V.int) (ns.map PyData.int)
  | [] => .nil
  | n :: r => .cons (.int n) (dp_ints r)
theorem dp_list {K : PySem.W.Frag} {H : Hp} {a : Addr} {ns : List Int} (h : SqL K H a (ns.map V.int)) : Dp K H (.ref a) (intsD ns) := .lst h (dp_ints ns)
theorem lay_ints : ∀ ns : List Int, PyData.canLayAll0 (ns.map PyData.int) = true
  | [] => rfl
  | n :: r => by
    show (PyData.canLay0 (.int n) && PyData.canLayAll0 (r.map PyData.int)) = true
    rw [lay_ints r]; rfl
theorem depth_ints : ∀ ns : List Int, PyData.depthAll (ns.map PyData.int) = 0
  | [] => rfl
  | n :: r => by
    show max (PyData.depth (.int n)) (PyData.depthAll (r.map PyData.int)) = 0
    rw [depth_ints r]; rfl
theorem shaped_ints (ns : List Int) : SeqAt.shaped (intsD ns) = true := by
  show ((PyData.canLayAll0 (ns.map PyData.int)) && decide (PyData.depthAll (ns.map PyData.int) + 1 ≤ 64)) = true
  rw [lay_ints, depth_ints]; rfl
theorem eqv_ints (ns : List Int) : PyData.eqv (intsD ns) (intsD ns) = true := SeqAt.eqv_refl _ (show PyData.canLay0 (intsD ns) = true from lay_ints ns)
def rowsD (rs : List (List Int)) : PyData := .list (rs.map intsD)
theorem lay_rows : ∀ rs : List (List Int), PyData.canLayAll0 (rs.map intsD) = true
  | [] => rfl
  | n :: r => by
    show (PyData.canLayAll0 (n.map PyData.int) && PyData.canLayAll0 (r.map intsD)) = true
    rw [lay_rows r, lay_ints]; rfl
theorem depth_rows : ∀ rs : List (List Int), PyData.depthAll (rs.map intsD) ≤ 1
  | [] => Nat.zero_le _
  | n :: r => by
    show max (PyData.depthAll (n.map PyData.int) + 1) (PyData.depthAll (r.map intsD)) ≤ 1
    have z := depth_rows r
    rw [depth_ints]; omega
theorem shaped_rows (rs : List (List Int)) : SeqAt.shaped (rowsD rs) = true := by
  show ((PyData.canLayAll0 (rs.map intsD)) && decide (PyData.depthAll (rs.map intsD) + 1 ≤ 64)) = true
  have z := depth_rows rs
  rw [lay_rows, decide_eq_true (by omega)]; rfl
theorem eqv_rows (rs : List (List Int)) : PyData.eqv (rowsD rs) (rowsD rs) = true := SeqAt.eqv_refl _ (show PyData.canLay0 (rowsD rs) = true from lay_rows rs)
/-- _law_class: the word of the class that the exception is of -/
def spClass (K : PySem.W.Frag) (p : Addr × Obj) : Sp := fun vs H Q _ => vs = [.ref p.1] ∧ ∃ C j wd, Zc (.ref C) none p.2 ∧ (∃ fs, p.2.data = .fields fs) ∧ ClassIs K C j ∧ (words ++ words2)[j]? = some wd ∧ ∀ H', Same H H' → Q (.str wd) H'
/-! ### the promises that many laws share -/
def spWhole (K : PySem.W.Frag) : Sp := fun vs H Q _ => ∃ x b, vs = [x] ∧ Thing K H x b ∧ Q (.bl b) H
/-- the message's parts are short -/
def Short (a : Int) : Prop := a.natAbs.log2 < 1920 ∧ (Str.empty ++ ("the number is not from " : Str) ++ (toString a : Str)).length ≤ sizeLine ∧ (Str.empty ++ ("the number is not from " : Str) ++ (toString a : Str) ++ (" to " : Str)).length ≤ sizeLine
def spNeed (K : PySem.W.Frag) (C : Addr) : Sp := fun vs H Q E => ∃ x a b z, vs = [x, .int a, .int b] ∧ Short a ∧ (b.natAbs.log2 < 1920 ∧ (Str.empty ++ ("the number is not from " : Str) ++ (toString a : Str) ++ (" to " : Str) ++ (toString b : Str)).length ≤ sizeLine) ∧ Thing K H x z ∧
  (NumOk x a b → Q .non H) ∧ (¬ NumOk x a b → E (.ref C) none H)
def spCellAt (K : PySem.W.Frag) : Sp := fun vs H Q _ => ∃ (a : Addr) (ns : List Int) (i : Nat), vs = [.ref a, .int (i : Int)] ∧ SqL K H a (ns.map V.int) ∧ ∀ c, Q (.int c) H
def spDraw : Sp := fun vs H Q _ => ∃ c k b : Int, vs = [.int c, .int k, .int b] ∧ 0 ≤ k ∧ k < 1048576 ∧ 0 < b ∧ b < 1073741824 ∧ ∀ r, 0 ≤ r → r < b → Q (.int r) H
def spNoNumber (K : PySem.W.Frag) : Sp := fun vs H Q _ => ∃ c k a b : Int, vs = [.int c, .int k, .int a, .int b] ∧ 0 ≤ k ∧ k < 1048576 ∧ -1000 ≤ a ∧ a ≤ 1000 ∧ a ≤ b ∧ b < 10 ^ 30 ∧ ∀ v z H', Same H H' → Thing K H' v z → ¬ NumOk v a b → Q v H'
/-! ### x(lambda: ..), where x tells the word of what is raised -/
def TRef (K : PySem.W.Frag) : (XK → Hp → VK → Prop) → Hp → VK → Prop := fun tl H Q => tl (fun cls d H' => d = none ∧ ∃ C j wd, cls = .ref C ∧ ClassIs K C j ∧ (words ++ words2)[j]? = some wd ∧ ∀ H'', Same H' H'' → Q (.str wd) H'') H (fun _ H' => ∃ v, some (some (V.str "told")) = some (some v) ∧ Q v H')
def tExc (K : PySem.W.Frag) (i : Nat) (a : Addr) (cls : Value) (d : Option Addr) : TE := fun σ H Q => σ[i]? = some (some (.ref a)) ∧ d = none ∧ ∃ C j wd, cls = .ref C ∧ ClassIs K C j ∧ (words ++ words2)[j]? = some wd ∧ ∀ H', Same H H' → Q (.str wd) H'
theorem takes_len {X : Cx} {W : WX} (t : Takes X W) : Takes X (fun c d σ H => σ.length = X.N.length → W c d σ H) := by
  rintro u s' ⟨a, B, sI, pins, σ, H, cls, d, e, I, nb, up, sky, na, os, ag, hw⟩
  exact t u s' ⟨a, B, sI, pins, σ, H, cls, d, e, I, nb, up, sky, na, os, ag, hw I.len⟩
/-! ### a call of a local name that holds one of several defs, which may raise -/
structure HeldX (P : Program) (w : World) (K : PySem.W.Frag) (mg : Str → Option Value) (base : Heap) (k : Nat) (sp : Sp) (f : Addr) : Prop where
  kp : PySem.W.keepIn K (.ref f) = true
  ex : ∃ fd ps, FnOk P w K mg base (L2.CX P w) k f fd ps sp ∧ Binds K fd ps []
theorem held_of {P : Program} {w : World} {K : PySem.W.Frag} {mg : Str → Option Value} {base : Heap} {k j : Nat} {x : Str} {ps : List Str} {sp sp' : Sp} (D : DefOk P w K mg base (L2.CX P w) k x ps sp) (hj : k ≤ j) (h : ∀ vs H Q E, sp' vs H Q E → sp vs H Q E) : HeldX P w K mg base j sp' (He.ga K x) := by
  obtain ⟨fd, F, b⟩ := D.ex
  exact ⟨D.kp, fd, ps, (F.mono hj).imp h, b⟩
def tCallM (i : Nat) (fs : List Addr) (sp : Sp) (E : XK) (t : TA) : TE := fun σ H Q => ∃ f, σ[i]? = some (some (.ref f)) ∧ f ∈ fs ∧ t σ H fun vs H1 => sp vs H1 Q E
theorem pe_callM {X : Cx} {k j i : Nat} {fs : List Addr} {sp : Sp} {E : XK} {x : Str} {p pos : Pos} {e : Expr} {es : List Expr} {t : TA} (F : ∀ f ∈ fs, HeldX X.prog X.w X.K X.mg X.base k sp f) (hr : Room j X.A) (hN : X.N[i]? = some x) (hv : Vis X.env.scope x) (hx : Passes (L2.CX X.prog X.w) X E) (ha : PA X (e :: es) t)
    (hj : k ≤ j := by decide) (hdb : (x == ("__debug__" : Str)) = false := by decide) (hcd : (x == ("__classdict__" : Str)) = false := by decide) (he : starEach (e :: es) X.env = (false, eval e X.env) :: starEach es X.env := by rfl) (hpl : (backTo pos (starEach es X.env)).any (·.1) = false := by rfl) :
    PE X (.Call (.Name x p) (e :: es) [] pos) (tCallM i fs sp E t) := by
  constructor
  rintro pins s σ H Q I ⟨f, h1, h2, h3⟩
  obtain ⟨kp, fd, ps, G, b⟩ := F f h2
  refine (pe_callL (f := f) (dvs := []) (ds := []) G (hr.mono hj) hN hv kp b .nil hx ha hdb hcd he hpl).run pins s σ H Q I ⟨h1, ?_⟩
  have e0 : (fun (vs : List V) (H1 : Hp) => sp (vs ++ []) H1 Q E) = fun vs H1 => sp vs H1 Q E := by
    funext vs H1; rw [List.append_nil]
  show t σ H (fun vs H1 => sp (vs ++ []) H1 Q E)
  rw [e0]
  exact h3
/-! ### things stay -/
theorem tyx_ext {K : PySem.W.Frag} {H H' : Hp} {x : V} {t : Value} (e : LamX.ExtN H H') (h : TyX K H x t) : TyX K H' x t := by
  cases h with
  | base b =>
    cases b with
    | non => exact .base .non
    | bl c => exact .base (.bl c)
    | int i => exact .base (.int i)
    | str y => exact .base (.str y)
    | flt y => exact .base (.flt y)
    | lst z => exact .base (.lst (e _ _ z fun _ q => by cases q))
    | frz z => exact .base (.frz (e _ _ z fun _ q => by cases q))
    | tup z => exact .base (.tup (e _ _ z fun _ q => by cases q))
    | dK z => exact .base (.dK (e _ _ z fun _ q => by cases q))
    | dT z => exact .base (.dT (e _ _ z fun _ q => by cases q))
    | ins z cl ha hn htk hm => exact .base (.ins (e _ _ z fun _ q => by cases q) cl ha hn htk hm)
  | byt b => exact .byt b
  | set z => exact .set (e _ _ z fun _ q => by cases q)
  | kList z c => exact .kList z c
  | kTuple z c => exact .kTuple z c
  | kDict z c => exact .kDict z c
  | fTuple z => exact .fTuple (e _ _ z fun _ q => by cases q)
  | fDict z => exact .fDict (e _ _ z fun _ q => by cases q)
theorem thing_ext {K : PySem.W.Frag} {H H' : Hp} {x : V} {b : Bool} (e : LamX.ExtN H H') (h : Thing K H x b) : Thing K H' x b := by
  obtain ⟨ty, z, m, q⟩ := h.ex
  exact ⟨⟨ty, tyx_ext e z, m, q⟩, h.int, h.non⟩
def spBad (K : PySem.W.Frag) (C : Addr) (a b : Int) : Sp := fun vs H _ E => ∃ x z, vs = [x] ∧ Thing K H x z ∧ ¬ NumOk x a b ∧ E (.ref C) none H
def spLaw (K : PySem.W.Frag) (Pt : Addr) : Sp := fun vs H Q _ => ∃ (a : Addr) (ns : List Int), vs = [.ref a] ∧ ns.length ≤ 63 ∧ SqL K H a (ns.map V.int) ∧ H Pt = some (.tbl #[]) ∧ ∀ H', Q (.bl true) H'
theorem dp_refs {K : PySem.W.Frag} {H : Hp} : ∀ {rs : List Addr} {ds : List (List Int)}, rs.length = ds.length → (∀ (i : Nat) q d, rs[i]? = some q → ds[i]? = some d → SqL K H q (d.map V.int)) → DpAll K H (rs.map V.ref) (ds.map intsD)
  | [], [], _, _ => .nil
  | q :: rs, d :: ds, hl, h => .cons (dp_list (h 0 q d rfl rfl)) (dp_refs (by simpa using hl) fun i q' d' a b => h (i + 1) q' d' a b)
theorem dp_rows {K : PySem.W.Frag} {H : Hp} {a : Addr} {rs : List Addr} {ds : List (List Int)} (e : SqL K H a (rs.map V.ref)) (hl : rs.length = ds.length) (h : ∀ (i : Nat) q d, rs[i]? = some q → ds[i]? = some d → SqL K H q (d.map V.int)) : Dp K H (.ref a) (rowsD ds) := .lst e (dp_refs hl h)
theorem kit_ll {K : PySem.W.Frag} : PySem.W.kitOne K (.type "list") (.type "list") = some true := kit_ty (by decide +kernel)
theorem kit_ib {K : PySem.W.Frag} : PySem.W.kitOne K (.type "int") (.type "bool") = some false := kit_ty (by decide +kernel)
theorem ne_same {K : PySem.W.Frag} {H : Hp} {x y : V} {d : PyData} {Q : VK} (h1 : Dp K H x d) (h2 : Dp K H y d) (sh : SeqAt.shaped d = true) (ev : PyData.eqv d d = true) (q : Q (.bl false) H) : rNeD K x y H Q := ⟨d, d, h1, h2, sh, sh, by rw [ev]; exact q⟩
theorem eq_same {K : PySem.W.Frag} {H : Hp} {x y : V} {d : PyData} {Q : VK} (h1 : Dp K H x d) (h2 : Dp K H y d) (sh : SeqAt.shaped d = true) (ev : PyData.eqv d d = true) (q : Q (.bl true) H) : rEqD K x y H Q := ⟨d, d, h1, h2, sh, sh, by rw [ev]; exact q⟩
theorem neS_same {z : Str} {H : Hp} {Q : VK} (q : Q (.bl false) H) : rNe (.str z) (.str z) H Q := ⟨rfl, by rw [decide_eq_true rfl]; exact q⟩
theorem ne_int {i : Int} {H : Hp} {Q : VK} (q : Q (.bl false) H) : rNe (.int i) (.int i) H Q := ⟨rfl, by rw [decide_eq_true rfl]; exact q⟩
theorem sz' {n : Nat} (h : n ≤ 1000) : n ≤ sizeLine := Nat.le_trans h (by decide)
end Up

set_option Elab.async false
set_option linter.all false
set_option maxRecDepth 100000
set_option maxHeartbeats 4000000
namespace Up
open PySem PySem.Spec PyProof.Rows L2 SrtO
section
variable {prog : Program} {w : World} {A : Around} {s : Shared}
def ltC (B : Int) (k : Value → List Int) (v u : Value) : Bool := decide (TS.code B (k v) < TS.code B (k u))
theorem swo_ltC (B : Int) (k : Value → List Int) : Swo (ltC B k) := by
  refine ⟨fun x y h => ?_, fun x y z h1 h2 => ?_⟩
  · have a := of_decide_eq_true (p := TS.code B (k x) < TS.code B (k y)) h
    exact decide_eq_false (p := TS.code B (k y) < TS.code B (k x)) (by omega)
  · have a := of_decide_eq_false (p := TS.code B (k y) < TS.code B (k x)) h1
    have b := of_decide_eq_false (p := TS.code B (k z) < TS.code B (k y)) h2
    exact decide_eq_false (p := TS.code B (k z) < TS.code B (k x)) (by omega)
def TOk (h : Heap) (d : Nat) (B : Int) (k : Value → List Int) (vs : List Value) : Prop := ∀ v ∈ vs, TS.TupInts h v (k v) ∧ (k v).length = d ∧ TS.Bd B (k v)
theorem tup_cmpC {vs : List Value} {k : Value → List Int} {d : Nat} {B : Int} (hp : TOk s.heap d B k vs) : Cmp prog w A s (tuples' true) (fun p => p.1 ∈ vs) (lt2 (ltC B k)) := by
  intro p q hm hm'
  obtain ⟨h1, l1, b1⟩ := hp _ hm
  obtain ⟨h2, l2, b2⟩ := hp _ hm'
  show wpAny (model prog w) A (keyLt' (tuples' true) p.1 q.1) (fun r s' => s' = s ∧ r = ltC B k p.1 q.1) (fun _ _ => False) s
  unfold ltC
  generalize k p.1 = ns at h1 l1 b1 ⊢
  generalize k q.1 = ms at h2 l2 b2 ⊢
  obtain ⟨a, xs, e, ⟨o, ho, hc, n, hd⟩, i1⟩ := h1
  obtain ⟨a', ys, e', ⟨o', ho', hc', n', hd'⟩, i2⟩ := h2
  rw [e, e']
  have hs : xs.size = ys.size := by
    have h3 := i1.length
    have h4 := i2.length
    rw [Array.length_toList] at h3 h4
    omega
  refine PySem.W.kat_lt ho hd ho' hd' ?_
  rw [decide_eq_false (p := xs.size < ys.size) (by omega)]
  exact TS.lex_ints 0 i1 i2 (l1.trans l2.symm) b1 b2 ⟨rfl, rfl⟩
theorem tup_sortableC {a : Addr} {vs : List Value} {k : Value → List Int} {d : Nat} {B : Int} (hd : 1 ≤ d) (h0 : 0 < vs.length) (hp : TOk s.heap d B k vs) (ha : ∀ o, s.heap.get? a = some o → o.cls ≠ .type "tuple") : SortableO prog w A s a vs (ltC B k) := by
  intro h' keep
  have hp' : TOk h' d B k vs := fun v hm => ⟨(hp v hm).1.keeps fun b o e c => keep b o (fun z => by subst z; exact ha o e c) e, (hp v hm).2⟩
  obtain ⟨fs, h1, h2, h3⟩ := TS.firsts_of (d := d) (B := B) hd vs fun v hm => ⟨k v, hp' v hm⟩
  refine ⟨tuples' true, fun Q E hq => ?_, tup_cmpC (s := { s with heap := h' }) hp'⟩
  refine PySem.W.kat_kind (T := .type "int") h1 (by omega) (fun f hm => ?_) (by rfl) ?_
  · obtain ⟨x, t, rfl⟩ := h3 f hm
    exact PySem.W.Looks.now
  · have e : (Value.type "int" != Value.type "tuple") = true := by first | decide +kernel | rfl | decide
    rw [e]
    exact hq
end
section
variable {X : Cx}
/-- tuples at these addresses, of d ints each, each in [0, B) -/
def TAt (H : Hp) (d : Nat) (B : Int) (k : Addr → List Int) (ts : List Addr) : Prop := ∀ t ∈ ts, H t = some (.tup ((k t).map V.int)) ∧ (k t).length = d ∧ TS.Bd B (k t)
/-- sorted(xs), xs a list of tuples of d ints each -/
def rSortedTC (K : PySem.W.Frag) : List V → Hp → VK → Prop := fun vs H Q => ∃ (a : Addr) (ts : List Addr) (k : Addr → List Int) (d : Nat) (B : Int), vs = [V.ref a] ∧ SqL K H a (ts.map V.ref) ∧ 1 ≤ d ∧ TAt H d B k ts ∧
  ∀ (us : List Addr) (p : Addr), us.Perm ts → us.Pairwise (fun x y => TS.code B (k x) ≤ TS.code B (k y)) → H p = none → Q (.ref p) (upd H p (.lst (us.map V.ref)))
def adr : Value → Addr
  | .ref a => a
  | _ => 0
theorem refs_only : ∀ {ts : List Addr} {us : List Value}, Vals (ts.map V.ref) us → us = ts.map Value.ref
  | [], _, .nil => rfl
  | t :: ts, _, .cons r q => by
    obtain rfl := (r : _ = Value.ref t)
    rw [List.map_cons, refs_only q]
theorem of_refs : ∀ ts : List Addr, Vals (ts.map V.ref) (ts.map Value.ref)
  | [] => .nil
  | _ :: ts => .cons rfl (of_refs ts)
theorem out_refs : ∀ {out : List Value}, (∀ v ∈ out, ∃ t, v = Value.ref t) → out = (out.map adr).map Value.ref
  | [], _ => rfl
  | v :: out, h => by
    obtain ⟨t, rfl⟩ := h v List.mem_cons_self
    rw [List.map_cons, List.map_cons, ← out_refs fun u hu => h u (List.mem_cons_of_mem _ hu)]
    rfl
theorem cr_sortedTC : CallR X (.builtin "sorted") (rSortedTC X.K) := by
  intro pins s σ H vs us Q I r h
  obtain ⟨a, ts, k, d, B, rfl, hs, hd, hx, q⟩ := h
  obtain ⟨its, rv, hl, hz⟩ := I.list hs
  obtain ⟨u, rfl, ru⟩ := vals1 r
  obtain rfl : u = Value.ref a := ru
  have ei := refs_only rv
  subst ei
  have hz' : (ts.map Value.ref).length ≤ sizeLine := by rw [List.length_map]; rw [List.length_map] at hz; exact hz
  have hp : TOk s.heap d B (fun v => k (adr v)) (ts.map Value.ref) := fun v hv => by
    obtain ⟨t, ht, rfl⟩ := List.mem_map.mp hv
    obtain ⟨h1, h2, h3⟩ := hx t ht
    obtain ⟨_, its2, r2, o, ho, hc, n, hdd⟩ := I.hok _ _ h1
    exact ⟨⟨t, its2.toArray, rfl, ⟨o, ho, hc, n, hdd⟩, intsAre_of r2⟩, h2, h3⟩
  refine SrtO.sorted_ord (swo_ltC B fun v => k (adr v)) hl.isList hz' (fun h2 h₁ a' ha kk => ?_) fun out hs' hb => ?_
  · refine tup_sortableC (s := { s with heap := h₁ }) hd (by omega) (fun v hm => ⟨(hp v hm).1.keeps fun b o e _ => (kk b o e).2, (hp v hm).2⟩) fun o e => ?_
    have e' : some o = some (seqObj "list" (ts.map Value.ref).toArray 0) := e.symm.trans ha
    cases e'
    intro c
    exact absurd (Value.type.inj c) (by decide)
  · have h3 : out = (out.map adr).map Value.ref := out_refs fun v hv => by
      obtain ⟨t, _, rfl⟩ := List.mem_map.mp (hb.perm.mem_iff.mp hv)
      exact ⟨t, rfl⟩
    have hpm : (out.map adr).Perm ts := by
      have z := hb.perm.map adr
      rw [List.map_map, show (adr ∘ Value.ref) = id from rfl, List.map_id] at z
      exact z
    obtain ⟨ep, he'⟩ := PyProof.Rows.sortedAll_at s.heap (ts.map Value.ref) out.toArray
    have hlen : ((out.map adr).map V.ref).length ≤ sizeLine := by
      rw [List.length_map, hpm.length_eq]
      rw [List.length_map] at hz'
      exact hz'
    have hv : Vals ((out.map adr).map V.ref) out := by
      have z := of_refs (out.map adr)
      rw [← h3] at z
      exact z
    refine ⟨.ref _, upd H (s.heap.objs.size + 1) (.lst ((out.map adr).map V.ref)), I.laid (t' := s.toks) (fun _ _ => PyProof.Rows.sortedAll_old) (Nat.le_succ _) ⟨hlen, out, ep, hv, he'⟩, rfl, q _ _ hpm ?_ (I.hok.fresh (Nat.le_succ _))⟩
    refine List.pairwise_map.mpr (hs'.imp fun {x y} h => ?_)
    have b := of_decide_eq_false (p := TS.code B (k (adr y)) < TS.code B (k (adr x))) h
    omega
end
theorem slAK {X : Cx} (K : PySem.W.Frag) (h : X.K = K := by rfl) : SlR X (rSlA K) := by subst h; exact sl_tupA
theorem catAK {X : Cx} (K : PySem.W.Frag) (h : X.K = K := by rfl) : OpR X (binaryOp .Add) (rCatA K) := by subst h; exact op_catA
theorem sortTK {X : Cx} (K : PySem.W.Frag) (h : X.K = K := by rfl) : CallR X (.builtin "sorted") (rSortedTC K) := by subst h; exact cr_sortedTC
/-- tuples of ints at these addresses -/
def TupsAt (H : Hp) (ts : List Addr) (ls : List (List Int)) : Prop := ts.map H = ls.map fun l => some (HO.tup (l.map V.int))
theorem TupsAt.len {H : Hp} {ts : List Addr} {ls : List (List Int)} (h : TupsAt H ts ls) : ts.length = ls.length := by
  have := congrArg List.length h
  simpa using this
theorem TupsAt.nil (H : Hp) : TupsAt H [] [] := rfl
theorem TupsAt.add {H : Hp} {ts us : List Addr} {ls ms : List (List Int)} (h : TupsAt H ts ls) (k : TupsAt H us ms) : TupsAt H (ts ++ us) (ls ++ ms) := by
  unfold TupsAt at *
  rw [List.map_append, List.map_append, h, k]
theorem TupsAt.one {H : Hp} {t : Addr} {l : List Int} (h : H t = some (.tup (l.map V.int))) : TupsAt H [t] [l] := by
  show [H t] = _
  rw [h]; rfl
theorem TupsAt.get {H : Hp} {ts : List Addr} {ls : List (List Int)} (h : TupsAt H ts ls) {i : Nat} {t : Addr} (e : ts[i]? = some t) : ∃ l, ls[i]? = some l ∧ H t = some (.tup (l.map V.int)) := by
  have z : (ts.map H)[i]? = (ls.map fun l => some (HO.tup (l.map V.int)))[i]? := congrArg (·[i]?) h
  rw [List.getElem?_map, e, List.getElem?_map] at z
  cases q : ls[i]? with
  | none => rw [q] at z; cases z
  | some l => rw [q] at z; exact ⟨l, rfl, Option.some.inj z⟩
theorem TupsAt.mem {H : Hp} {ts : List Addr} {ls : List (List Int)} (h : TupsAt H ts ls) {t : Addr} (m : t ∈ ts) : ∃ l, l ∈ ls ∧ H t = some (.tup (l.map V.int)) := by
  obtain ⟨i, hi, e⟩ := List.mem_iff_getElem.mp m
  obtain ⟨l, q, r⟩ := h.get (i := i) (t := t) (by rw [List.getElem?_eq_getElem hi, e])
  exact ⟨l, List.mem_of_getElem? q, r⟩
theorem TupsAt.to {H H' : Hp} {ts : List Addr} {ls : List (List Int)} (h : TupsAt H ts ls) (k : ∀ t l, H t = some (.tup l) → H' t = some (.tup l)) : TupsAt H' ts ls := by
  have e : ts.map H' = ts.map H := List.map_congr_left fun t m => by
    obtain ⟨l, _, q⟩ := h.mem m
    rw [q, k _ _ q]
  unfold TupsAt
  rw [e]; exact h
theorem TupsAt.same {H H' : Hp} {ts : List Addr} {ls : List (List Int)} (h : TupsAt H ts ls) (s : Same H H') : TupsAt H' ts ls := h.to fun t l e => s _ _ e
theorem TupsAt.set {H : Hp} {ts : List Addr} {ls : List (List Int)} {p : Addr} {xs : List V} {o : HO} (h : TupsAt H ts ls) (e : H p = some (.lst xs)) : TupsAt (upd H p o) ts ls := h.to fun t l q => by
  rw [upd_ne fun z => by rw [z, e] at q; cases q]; exact q
def toI : V → Int
  | .int i => i
  | _ => 0
theorem toI_ints (l : List Int) : (l.map V.int).map toI = l := by
  rw [List.map_map]; exact List.map_id l
/-- the ints of the tuple at t -/
def tk (H : Hp) (t : Addr) : List Int := match H t with
  | some (.tup xs) => xs.map toI
  | _ => []
theorem tk_of {H : Hp} {t : Addr} {l : List Int} (h : H t = some (.tup (l.map V.int))) : tk H t = l := by
  unfold tk
  rw [h]; exact toI_ints l
theorem TupsAt.keys {H : Hp} {ts : List Addr} {ls : List (List Int)} (h : TupsAt H ts ls) : ts.map (tk H) = ls := by
  refine List.ext_getElem? fun i => ?_
  rw [List.getElem?_map]
  cases e : ts[i]? with
  | none =>
    have := List.getElem?_eq_none_iff.mp e
    rw [h.len] at this
    rw [List.getElem?_eq_none this]; rfl
  | some t =>
    obtain ⟨l, q, r⟩ := h.get e
    rw [q]
    exact congrArg some (tk_of r)
theorem TupsAt.perm {H : Hp} {ts us : List Addr} {ls : List (List Int)} (h : TupsAt H ts ls) (p : us.Perm ts) : ∃ ms, TupsAt H us ms ∧ ms.Perm ls := by
  refine ⟨us.map (tk H), ?_, by rw [← h.keys]; exact p.map _⟩
  unfold TupsAt
  rw [List.map_map]
  refine List.map_congr_left fun t m => ?_
  obtain ⟨l, _, q⟩ := h.mem (p.mem_iff.mp m)
  show H t = some (HO.tup ((tk H t).map V.int))
  rw [tk_of q]; exact q
theorem TupsAt.tat {H : Hp} {ts : List Addr} {ls : List (List Int)} {d : Nat} {B : Int} (h : TupsAt H ts ls) (g : ∀ l ∈ ls, l.length = d ∧ TS.Bd B l) : TAt H d B (tk H) ts := fun t m => by
  obtain ⟨l, hl, q⟩ := h.mem m
  rw [tk_of q]
  exact ⟨q, g l hl⟩
theorem take_by {K : PySem.W.Frag} {H : Hp} {Q : VK} {t : Addr} {l : List Int} {k : Nat} (e : H t = some (.tup (l.map V.int))) (q : ∀ H' p, Same H H' → H' p = some (.tup ((l.take k).map V.int)) → Q (.ref p) H') : rSlA K (.ref t) none (some (k : Int)) H Q := by
  refine ⟨t, _, rfl, SqT.of e, fun c => ?_, fun c p np => ?_⟩
  · have hk := c.2
    rw [HT.sIx_nat, List.length_map] at hk
    refine q H t (Same.refl _) ?_
    rw [List.take_of_length_le (by omega)]; exact e
  · refine q _ p (same_new np) ?_
    rw [upd_same]
    unfold cutV
    rw [HT.sIx_none, HT.sIx_nat, List.drop_zero, Nat.sub_zero, ← List.map_take, List.length_map]
    by_cases z : k ≤ l.length
    · rw [Nat.min_eq_left z]
    · rw [Nat.min_eq_right (by omega), List.take_of_length_le (Nat.le_refl _), List.take_of_length_le (by omega)]
theorem drop_by {K : PySem.W.Frag} {H : Hp} {Q : VK} {t : Addr} {l : List Int} {k : Nat} (e : H t = some (.tup (l.map V.int))) (q : ∀ H' p, Same H H' → H' p = some (.tup ((l.drop k).map V.int)) → Q (.ref p) H') : rSlA K (.ref t) (some (k : Int)) none H Q := by
  refine ⟨t, _, rfl, SqT.of e, fun c => ?_, fun c p np => ?_⟩
  · have hk := c.1
    rw [HT.sIx_nat, List.length_map] at hk
    refine q H t (Same.refl _) ?_
    by_cases z : k = 0
    · rw [z, List.drop_zero]; exact e
    · have z2 : l.length = 0 := by omega
      have z3 : l = [] := List.length_eq_zero_iff.mp z2
      rw [z3] at e ⊢
      rw [List.drop_nil]; exact e
  · refine q _ p (same_new np) ?_
    rw [upd_same]
    unfold cutV
    rw [HT.sIx_none, HT.sIx_nat, List.length_map, ← List.map_drop, ← List.map_take]
    by_cases z : k ≤ l.length
    · rw [Nat.min_eq_left z, List.take_of_length_le (by rw [List.length_drop]; exact Nat.le_refl _)]
    · rw [Nat.min_eq_right (by omega), Nat.sub_self, List.take_zero, List.drop_of_length_le (by omega)]
theorem cat_by {K : PySem.W.Frag} {H : Hp} {Q : VK} {a b : Addr} {l m : List Int} (ea : H a = some (.tup (l.map V.int))) (eb : H b = some (.tup (m.map V.int))) (hz : l.length + m.length ≤ sizeLine) (q : ∀ H' p, Same H H' → H' p = some (.tup ((l ++ m).map V.int)) → Q (.ref p) H') : rCatA K (.ref a) (.ref b) H Q := by
  refine ⟨a, b, _, _, rfl, rfl, SqT.of ea, SqT.of eb, by rw [List.length_map, List.length_map]; exact hz, fun c => ?_, fun c d => ?_, fun c d p np => ?_⟩
  · have z : l = [] := List.map_eq_nil_iff.mp c
    refine q H b (Same.refl _) ?_
    rw [z, List.nil_append]; exact eb
  · have z : m = [] := List.map_eq_nil_iff.mp d
    refine q H a (Same.refl _) ?_
    rw [z, List.append_nil]; exact ea
  · refine q _ p (same_new np) ?_
    rw [upd_same, List.map_append]
theorem get_ref {ts : List Addr} {j : Nat} {x : V} (h : (ts.map V.ref)[j]? = some x) : ∃ t, ts[j]? = some t ∧ x = .ref t := by
  rw [List.getElem?_map] at h
  cases e : ts[j]? with
  | none => rw [e] at h; cases h
  | some t => rw [e] at h; exact ⟨t, rfl, (Option.some.inj h).symm⟩
def scOf : Expr → Scope
  | .Compare _ _ (.ListComp _ _ sc _ :: _) _ => sc
  | _ => defScope (.Pass ⟨0, 0, 0, 0⟩)
def scIf : List Stmt → Scope
  | [_, .If t _ _ _] => scOf t
  | _ => defScope (.Pass ⟨0, 0, 0, 0⟩)
/-- the scope of the comprehension with one within, in the law's second statement -/
def scOuter (s : Stmt) : Scope := match (defBody s).getD 1 (.Pass ⟨0, 0, 0, 0⟩) with
  | .For _ _ b _ _ => scIf b
  | _ => defScope (.Pass ⟨0, 0, 0, 0⟩)
theorem piLK {X : Cx} {tg l : Expr} {tl : TE} (K : PySem.W.Frag) (hl : PE X l tl) (h : X.K = K := by rfl) : PI X tg l (iList K tl) := by subst h; exact pi_list hl
end Up

set_option Elab.async false
set_option linter.all false
set_option maxRecDepth 100000
set_option maxHeartbeats 4000000
namespace Up
open PySem PySem.Spec PyProof.Rows L2
/-- what a call in a generator's frame rests on -/
structure Low (K : PySem.W.Frag) (mg : Str → Option Value) (h : Heap) : Prop where
  kin : K.In h
  glob : h.Ns mainGlobals mg
  blt : ∃ mb, h.Ns builtinsNs mb ∧ ∀ x, x ≠ ("__name__" : Str) → mb x = bootBuiltins x
  lim : h.NoLimit
theorem Low.keeps {K : PySem.W.Frag} {mg : Str → Option Value} {h h' : Heap} (l : Low K mg h) (k : ∀ b o, h.get? b = some o → h'.get? b = some o) : Low K mg h' :=
  ⟨l.kin.keeps k, l.glob.keeps k, let ⟨mb, h1, h2⟩ := l.blt; ⟨mb, h1.keeps k, h2⟩, l.lim.keeps k⟩
section
variable {P : Program} {w : World} {A : Around} {E : Value → Shared → Prop} {K : PySem.W.Frag} {mg : Str → Option Value}
theorem low_glob {s : Shared} {env : Env} {x : Str} {u : Value} {pos : Pos} {Q : Value → Shared → Prop} (L : Low K mg s.heap) (hk : env.scope.kind = .function) (hg : env.scope.names.lookup x = some .globalImplicit) (hge : env.globals = mainGlobals) (hm : mg x = some u) (h : Q u s)
    (hd : (x == ("__debug__" : Str)) = false := by decide) : wpAny (model P w) A (eval (.Name x pos) env) Q E s :=
  Calls.Name_function_global hk hg (Calls.loadGlobal_global (by rw [hge]; exact L.glob) hm h) hd
theorem low_blt {s : Shared} {env : Env} {x : Str} {u : Value} {pos : Pos} {Q : Value → Shared → Prop} (L : Low K mg s.heap) (hk : env.scope.kind = .function) (hg : env.scope.names.lookup x = some .globalImplicit) (hge : env.globals = mainGlobals) (hbe : env.builtins = builtinsNs) (hm : mg x = none) (hv : bootBuiltins x = some u) (h : Q u s)
    (hn : x ≠ "__name__" := by decide) (hd : (x == ("__debug__" : Str)) = false := by decide) : wpAny (model P w) A (eval (.Name x pos) env) Q E s := by
  obtain ⟨mb, h1, h2⟩ := L.blt
  exact Calls.Name_function_global hk hg (Calls.loadGlobal_builtin (by rw [hge]; exact L.glob) hm (by rw [hbe]; exact h1) ((h2 x hn).trans hv) h) hd
theorem keeps_trans {s s1 s2 : Shared} (a : Keeps s s1) (b : Keeps s1 s2) : Keeps s s2 := by
  obtain ⟨h1, t1, rfl, k1⟩ := a
  obtain ⟨h2, t2, rfl, k2⟩ := b
  exact ⟨h2, t2, rfl, fun b o e => k2 b o (k1 b o e)⟩
theorem keeps_heap {s s1 : Shared} (a : Keeps s s1) : ∀ b o, s.heap.get? b = some o → s1.heap.get? b = some o := by
  obtain ⟨h1, t1, rfl, k1⟩ := a
  exact k1
/-- isinstance(x, T), x a local name -/
theorem low_isi {s : Shared} {env : Env} {x : Str} {u : Value} {T : String} {m : Str → Option Value} {p1 p2 p3 p4 : Pos} {Pz : Heap → Prop} {t : Value} {b : Bool} {Q : Value → Shared → Prop} (L : Low K mg s.heap) (hk : env.scope.kind = .function)
    (gi : env.scope.names.lookup ("isinstance" : Str) = some .globalImplicit) (gc : env.scope.names.lookup (Str.ofString T) = some .globalImplicit) (hx : env.scope.names.lookup x = some .local) (hge : env.globals = mainGlobals) (hbe : env.builtins = builtinsNs)
    (mi : mg "isinstance" = none) (mc : mg (Str.ofString T) = none) (bi : bootBuiltins "isinstance" = some (.builtin "isinstance")) (bc : bootBuiltins (Str.ofString T) = some (.type T)) (hn : s.heap.Ns env.locals m) (hm : m x = some u)
    (Z : PySem.W.KitX K u t Pz) (pz : Pz s.heap) (ho : u ≠ .builtin "__main__.__loader__#opaque") (e : PySem.W.kitOne K t (.type T) = some b) (q : ∀ tk, Q (.bool b) { s with toks := tk })
    (hnT : Str.ofString T ≠ "__name__") (hdT : (Str.ofString T == ("__debug__" : Str)) = false) (hdx : (x == ("__debug__" : Str)) = false) :
    wpAny (model P w) A (eval (.Call (.Name "isinstance" p1) [.Name x p2, .Name (Str.ofString T) p3] [] p4) env) Q E s := by
  refine wpAny_Call_Name_kw (low_blt L hk gi hge hbe mi bi ?_)
  refine PyProof.Rows.callWith_builtin1 ?_ (by rfl) (by rfl)
  show wpAny _ _ (spliced ((false, eval (.Name x p2) env) :: backTo p4 (starEach [.Name (Str.ofString T) p3] env))) _ _ s
  refine Calls.spliced_cons (wpAny_Name (wpAny_loadName_local hk hx hn hm ?_) hdx)
  show wpAny _ _ (spliced ((false, eval (.Name (Str.ofString T) p3) env) :: backTo p4 (starEach [] env))) _ _ s
  refine Calls.spliced_cons (low_blt L hk gc hge hbe mc bc ?_ hnT hdT)
  refine Calls.spliced_nil ?_
  exact PySem.W.kia_one Z L.kin pz e ho q
abbrev wholeBody (p1 p2 p3 p4 q1 q2 q3 q4 q5 r1 r2 : Pos) : List Stmt :=
  [.Return (some (.BoolOp .And [.Call (.Name "isinstance" p1) [.Name "thing" p2, .Name "int" p3] [] p4, .UnaryOp .Not (.Call (.Name "isinstance" q1) [.Name "thing" q2, .Name "bool" q3] [] q4) q5] r1)) r2]
/-- is_whole called from anywhere -/
theorem whole_low {s : Shared} {st : Stmt} {fd : FuncData} {u t : Value} {Pz : Heap → Prop} {b1 b2 : Bool} {Q : Value → Shared → Prop} {p1 p2 p3 p4 q1 q2 q3 q4 q5 r1 r2 : Pos} (F : FnT K "is_whole" st fd) (S : FnScope ["thing"] ["thing"] (defScope st)) (hbd : defBody st = wholeBody p1 p2 p3 p4 q1 q2 q3 q4 q5 r1 r2)
    (hb : ∀ (kV doc pm : Value) (an : Option Addr) (cdv ct : Value) (us : List Value), us.length = 1 → bindArgs (PySem.W.fnOf "is_whole" "is_whole" (defArgs st) (defBody st) (defScope st) .none kV doc pm an cdv ct) ⟨us, []⟩ = pure ((["thing"] : List Str).zip us))
    (gi : (defScope st).names.lookup ("isinstance" : Str) = some .globalImplicit) (gn : (defScope st).names.lookup ("int" : Str) = some .globalImplicit) (gb : (defScope st).names.lookup ("bool" : Str) = some .globalImplicit)
    (hl : (defScope st).names.lookup ("thing" : Str) = some .local) (mi : mg "isinstance" = none) (mn : mg "int" = none) (mb : mg "bool" = none)
    (L : Low K mg s.heap) (hd : A.depth < recursionLimit) (Z : PySem.W.KitX K u t Pz) (pz : ∀ h', (∀ b o, s.heap.get? b = some o → h'.get? b = some o) → Pz h') (ho : u ≠ .builtin "__main__.__loader__#opaque")
    (e1 : PySem.W.kitOne K t (.type "int") = some b1) (e2 : PySem.W.kitOne K t (.type "bool") = some b2) (q : ∀ s', Keeps s s' → Q (.bool (b1 && !b2)) s') : wpAny (model P w) A (call (.ref (He.ga K "is_whole")) [u]) Q E s := by
  obtain ⟨oc, od, dV, kV, doc, pm, an, cdv, ct, osl, rfl, lk, hcd, _, _⟩ := F.ex
  have hbb := F.bindsN (ps := ["thing"]) hb
  refine wpAny_call (codeAny_call_function hd (L.kin _ _ lk) rfl S.co S.gen rfl (PySem.W.codeRec_of L.kin hcd) ((hbb s [u] L.kin rfl) _ _ _ _ ?_))
  refine wpAny_newFunctionEnv_cells S.kind (fun y hy => .inl ?_) fun env he s1 x => ?_
  · have hy' : y = (("thing" : Str), u) := by simpa using hy
    rw [hy']; exact hl
  subst he
  refine ⟨L.lim.keeps x.toInCall.keep, codeAny_func ?_⟩
  have L1 := L.keeps x.toInCall.keep
  have hns := x.toInCall.ns
  obtain ⟨h1, tk, rfl, hk⟩ := x.done
  have hm : bindL (envOfC "is_whole" (defScope st) s.heap.objs.size (He.ga K "is_whole") cdv).kindOf ((["thing"] : List Str).zip [u]) (fun _ => none) "thing" = some u :=
    bindL_get (i := 0) (by decide) rfl rfl hl
  rw [hbd]
  refine wpAny_execs_cons (wpAny_Return_some (BoolOp_and (low_isi (T := "int") (b := b1) L1 S.kind gi gn hl rfl rfl mi mn (by decide +kernel) (by decide +kernel) hns hm Z (pz _ hk) ho e1 (fun tk1 => ?_) (by decide) (by decide) (by decide))))
  refine wpAny_truthy_bool ?_
  have kk : ∀ tk', Keeps s { s with heap := h1, toks := tk' } := fun tk' => ⟨h1, tk', rfl, hk⟩
  cases b1 with
  | false => exact q _ (kk _)
  | true =>
    refine BoolOp_one (UnaryOp_ (low_isi (T := "bool") (b := b2) (L1.keeps fun _ _ e => e) S.kind gi gb hl rfl rfl mi mb (by decide +kernel) (by decide +kernel) hns hm Z (pz _ hk) ho e2 (fun tk2 => ?_) (by decide) (by decide) (by decide)))
    exact not_of (wpAny_truthy_bool (q _ (kk _)))
end
end Up

set_option Elab.async false
set_option linter.all false
set_option maxRecDepth 100000
set_option maxHeartbeats 4000000
namespace Up
open PySem PySem.Spec PyProof.Rows L2
section
variable {X : Cx} {pins : List (Addr × Obj)} {σ : L2.St} {H : Hp} {s : Shared}
/-- an iterator that iter() lays: of n items, the i-th being Pf i -/
def Src (X : Cx) (P : Addr) (u : Value) (s1 : Shared) (n : Nat) (Pf : Nat → Value → Prop) : Prop :=
  ∃ (o : Obj) (fp : List Addr) (St : Nat → Heap → Prop),
    (∀ R : Value → Shared → Prop, R (.ref s1.heap.objs.size) { s1 with heap := s1.heap.push o } → wpAny (model X.prog X.w) X.A (pyIter u) R X.xe s1) ∧
    (∀ A' : Around, A'.handled = none → Walks X.prog X.w A' s1.heap.objs.size fp [s1.heap.objs.size] n Pf St) ∧
    (∀ b ∈ fp, b ≤ s1.heap.objs.size ∧ b ≠ P) ∧
    ∀ h' : Heap, (∀ b v, b ≠ P → (s1.heap.push o).get? b = some v → h'.get? b = some v) → St 0 h'
theorem src_tuple {a P : Addr} {xs : List V} {s1 : Shared} {H1 : Hp} (I : Inv X pins σ H1 s1) (hT : SqT X.K H1 a xs) (hP : ∃ ps, H1 P = some (.tbl ps)) : ∃ its, Vals xs its ∧ its.length ≤ sizeLine ∧ Src X P (.ref a) s1 xs.length (fun i v => its[i]? = some v) := by
  obtain ⟨its, r, ⟨ob, ho, hc, n, hd⟩, hz⟩ := I.tuple hT
  obtain ⟨ps, eP⟩ := hP
  have ePs : s1.heap.get? P = some { cls := .none, data := .fields ps } := I.hok P _ eP
  have al : a < s1.heap.objs.size := Heap.lt_size ho
  have aP : a ≠ P := fun e => by
    rw [e, ePs] at ho
    have e2 := Option.some.inj ho
    rw [← e2] at hc
    cases hc
  have Pl : P < s1.heap.objs.size := Heap.lt_size ePs
  refine ⟨its, r, by rw [← r.length]; exact hz, _, [s1.heap.objs.size, a], fun i h => h.IsTupleIter s1.heap.objs.size a i ∧ h.IsTuple a its.toArray, fun R h => wpAny_pyIter_tuple ⟨ob, ho, hc, n, hd⟩ h, fun A' hA => ?_, fun b hb => ?_, fun h' k => ?_⟩
  · have e : xs.length = its.toArray.size := by rw [List.size_toArray]; exact r.length
    rw [e]
    have W := Walks.tuple (prog := X.prog) (w := X.w) hA s1.heap.objs.size a (Nat.ne_of_lt al) its.toArray
    have ef : (fun (i : Nat) (v : Value) => its[i]? = some v) = fun i v => its.toArray[i]? = some v := by
      funext i v
      rw [List.getElem?_toArray]
    rw [ef]
    exact W
  · rcases List.mem_cons.mp hb with z | z
    · rw [z]; exact ⟨Nat.le_refl _, Nat.ne_of_gt Pl⟩
    · rw [List.mem_singleton.mp z]; exact ⟨Nat.le_of_lt al, aP⟩
  · exact ⟨⟨_, k _ _ (Nat.ne_of_gt Pl) (Heap.get?_push_size _ rfl), rfl, rfl⟩, ⟨ob, k _ _ aP (Heap.get?_push_of_some _ ho), hc, n, hd⟩⟩

/-- the tests and the element, for the i-th item v, wherever the generator runs -/
def Elt (X : Cx) (P : Addr) (s1 : Shared) (scope : Scope) (x : Str) (ifs : List Expr) (elt : Expr) (Pf : Nat → Value → Prop) (pz : Nat → Bool) (F : Nat → Value → Prop) : Prop :=
  ∀ (ce : Env) (B : Around) (E2 : Value → Shared → Prop) (i : Nat) (v : Value) (t : Shared) (m : Str → Option Value), B.handled = none → B.depth ≤ X.A.depth + 1 → B.units ≤ X.A.units + 8 →
    ce.scope = scope → ce.globals = mainGlobals → ce.builtins = builtinsNs → ce.cells = cloFrom X.env.cells scope.names [] → Pf i v → t.heap.Ns ce.locals m → m x = some v → (∀ b o, b ≠ P → s1.heap.get? b = some o → t.heap.get? b = some o) →
    wpAny (model X.prog X.w) B (forIn ifs true fun c r => if r = true then do let ok ← isTrue c ce (eval c ce); pure (ForInStep.yield ok) else pure (ForInStep.yield r)) (fun ok t' => ok = pz i ∧ Keeps t t') E2 t ∧
    (pz i = true → wpAny (model X.prog X.w) B (eval elt ce) (fun y t' => F i y ∧ Keeps t t') E2 t)
/-- the generator g stands ready -/
def Rdy (X : Cx) (pins : List (Addr × Obj)) (σ : L2.St) (H1 : Hp) (P : Addr) (n : Nat) (pz : Nat → Bool) (F : Nat → Value → Prop) (g : Addr) (s5 : Shared) : Prop :=
  ∃ (fp wr : List Addr) (G : Array GenState → Array GenState → Prop) (St : Nat → Shared → Prop), WalksS X.prog X.w X.A.in4 g fp wr G (passing pz n 0).length (fun j y => ∃ i, (passing pz n 0)[j]? = some i ∧ F i y) St ∧ St 0 s5 ∧
    (∀ b ∈ fp, b < s5.heap.objs.size) ∧ g ∈ fp ∧ (∀ i t, St i t → t.TypeIs (.ref g) "generator") ∧ ∀ s', Moved wr G s5 s' → ∃ H2, GxR.Tabbed P H1 H2 ∧ Inv X pins σ H2 s'
theorem gen_src0 {c P : Addr} {elt iter : Expr} {ifs : List Expr} {x : Str} {px gpos : Pos} {scope : Scope} {k : Nat} {Q' : Value → Shared → Prop} {Rr : Value → Hp → Shared → Prop}
    (hr : Room k X.A) (TB : GxR.TabB X.base X.mg c P) (hcode : X.env.code = .ref c) (S : GxR.GenS X.env scope x) (hs : ∀ v, genFold iter X.env v = pure v) (hev : wpAny (model X.prog X.w) X.A (eval iter X.env) (fun u s1 => ∃ H1, Inv X pins σ H1 s1 ∧ GxR.TabG H1 P ∧ Rr u H1 s1) X.xe s)
    (hQ : ∀ u H1 s1, Inv X pins σ H1 s1 → GxR.TabG H1 P → Rr u H1 s1 → ∃ n Pf pz F, Src X P u s1 n Pf ∧ Elt X P s1 scope x ifs elt Pf pz F ∧ ∀ g s5, Rdy X pins σ H1 P n pz F g s5 → Q' (.ref g) s5) :
    wpAny (model X.prog X.w) X.A (eval (.GeneratorExp elt [⟨.Name x px, iter, ifs, 0⟩] scope gpos) X.env) Q' X.xe s := by
  refine wpAny_GeneratorExp_walksQD hr.hd S.co (closure_ok S.free) S.cell S.dot S.loc S.kind (by have := hr.dp; omega) (wpAny_mono hev (fun xv s1 hv => ?_) fun _ _ e => e) hs
  obtain ⟨H1, I1, ⟨ps, hP, ht⟩, q1⟩ := hv
  obtain ⟨n, Pf, pz, F, ⟨o, fp, St, hit, W, hfp, hst⟩, hel, hq⟩ := hQ xv H1 s1 I1 ⟨ps, hP, ht⟩ q1
  refine hit _ ?_
  have ePs : s1.heap.get? P = some { cls := .none, data := .fields ps } := I1.hok P _ hP
  have lP : P < s1.heap.objs.size := Heap.lt_size ePs
  have eP2 : (s1.heap.push o).get? P = some { cls := .none, data := .fields ps } := Heap.get?_push_of_some _ ePs
  have ccd : PySem.W.CodeHd (s1.heap.push o) c P := TB.code.keeps fun b u e => Heap.get?_push_of_some _ (I1.bk b u e)
  have szp : (s1.heap.push o).objs.size = s1.heap.objs.size + 1 := Heap.size_push ..
  refine ⟨I1.nolimit.push o, ?_⟩
  -- the code object: its table may have grown
  have hcw : wpAny (model X.prog X.w) X.A (genexprCode X.env gpos (X.env.qual ++ "<genexpr>") scope) (fun _ s3 => ∃ h3 tk more, s3 = { s1 with heap := h3, toks := tk } ∧ Heap.ExtBut P (s1.heap.push o) h3 ∧ s1.heap.objs.size + 1 ≤ h3.objs.size ∧
      h3.get? P = some { cls := .none, data := .fields (ps ++ more) } ∧ TriplesOk (ps ++ more).toList) X.xe { s1 with heap := s1.heap.push o } := by
    cases hf : codeAmong gpos ps.toList with
    | none =>
      refine wpAny_genexprCodeX hcode (ccd.code eP2 ht) (ccd.tab eP2) hf fun c' h' tk hx hge hlt hco' _ htab' _ => ?_
      obtain ⟨_, _, _, _, _, _, _, _, _, _, _, _, _, _, _, _, _, _, _, trip, _⟩ := hco'
      rw [szp] at hge
      exact ⟨h', tk, _, rfl, hx, Nat.le_trans hge (Nat.le_of_lt hlt), htab'.2, trip⟩
    | some cv =>
      refine wpAny_genexprCode_hit hcode (ccd.code eP2 ht) hf ?_
      exact ⟨s1.heap.push o, s1.toks, #[], rfl, Heap.ExtBut.refl _ _, Nat.le_of_eq szp.symm, by rw [Array.append_empty]; exact eP2, by rw [Array.append_empty]; exact ht⟩
  refine wpAny_mono hcw (fun code s3 hc3 => ?_) fun _ _ e => e
  obtain ⟨h3, tk, more, rfl, hx, hsz, hP3, ht3⟩ := hc3
  obtain ⟨bm, ob, b1, b2, b3, b4, b5, b6, b7, b8⟩ := TB.bm
  have kp3 : ∀ b u, b ≠ P → s1.heap.get? b = some u → h3.get? b = some u := fun b u hb e => hx b u hb (Heap.get?_push_of_some _ e)
  have neP : cStatics ≠ P := fun e => by
    obtain ⟨_, ⟨o', es, ep, ho, hd, _⟩, _⟩ := I1.nolimit
    rw [e, ePs] at ho
    cases ho
    cases hd
  have ltS : cStatics < s1.heap.objs.size := let ⟨_, hns, _⟩ := I1.nolimit; hns.lt
  refine wpAny_builtinsFor (m := X.mg) (by rw [I1.ok.glob]; exact ((I1.mod.glob.keeps I1.bk).push o).extBut hx TB.gP) b1 b2 (kp3 _ _ b4 (I1.bk _ _ b5)) b6 b7 b8 ?_
  refine ⟨s1.heap.objs.size, fp, [s1.heap.objs.size], n, Pf, St, pz, F, rfl, W, hst h3 hx, fun b hb => ?_, (I1.nolimit.push o).extBut hx neP, fun z => absurd (List.mem_singleton.mp z) (Nat.ne_of_lt ltS), fun href hh => ?_, fun g h5 tk5 gs hgb hag hsz5 hk5 W5 hat => ?_⟩
  · exact Nat.lt_of_lt_of_le (Nat.lt_succ_of_le (hfp b hb).1) hsz
  · have keepT : ∀ (t : Shared), (∀ b ∈ List.range h3.objs.size, b ∉ [s1.heap.objs.size] → ∀ u, href.get? b = some u → t.heap.get? b = some u) → ∀ b u, b ≠ P → s1.heap.get? b = some u → t.heap.get? b = some u := fun t kt b u hb e => by
      have lb : b < s1.heap.objs.size := Heap.lt_size e
      exact kt b (List.mem_range.mpr (Nat.lt_of_lt_of_le lb (Nat.le_of_succ_le hsz))) (fun z => Nat.ne_of_lt lb (List.mem_singleton.mp z)) u (hh b u (kp3 b u hb e))
    refine ⟨fun A' E' i v t m hA hD hU hPv hn hm kt => ?_, fun A' E' i v t m hA hD hU hPv hp hn hm kt => ?_⟩
    · exact (hel (genEnv scope (cloFrom X.env.cells scope.names []) h3.objs.size code builtinsNs X.env) A' E' i v t m hA hD hU rfl I1.ok.glob rfl rfl hPv hn hm (keepT t kt)).1
    · exact (hel (genEnv scope (cloFrom X.env.cells scope.names []) h3.objs.size code builtinsNs X.env) A' E' i v t m hA hD hU rfl I1.ok.glob rfl rfl hPv hn hm (keepT t kt)).2 hp
  · refine hq g _ ⟨_, _, _, _, W5, hat, fun b hb => ?_, List.mem_cons_self, fun i t ht9 => ?_, fun s' hm => ?_⟩
    · show b < h5.objs.size
      rcases List.mem_cons.mp hb with z | z
      · rw [z, hsz5]; exact Nat.lt_succ_self g
      · rcases List.mem_cons.mp z with z | z
        · rw [z, hsz5]; exact Nat.lt_succ_of_lt hag
        · rw [hsz5]; exact Nat.lt_succ_of_lt (Nat.lt_trans (List.mem_range.mp z) hag)
    · exact Heap.IsGen.typeIs ht9.1
    · have nwr : ∀ b u, s1.heap.get? b = some u → b ∉ h3.objs.size :: [s1.heap.objs.size] := fun b u e hb => by
        have lb := Heap.lt_size e
        rcases List.mem_cons.mp hb with z | z
        · rw [z] at lb
          exact absurd (Nat.lt_of_lt_of_le lb (Nat.le_of_succ_le hsz)) (Nat.lt_irrefl _)
        · rw [List.mem_singleton.mp z] at lb
          exact Nat.lt_irrefl _ lb
      have J := GxR.inv_tab (more := more) (h' := s'.heap) (g' := s'.gens) (d' := s'.drawn) (t' := s'.toks) I1 hP (fun b u hb e => hm.heap b u (nwr b u e) (hk5 b u (kp3 b u hb e)))
        (hm.heap P _ (nwr P _ ePs) (hk5 P _ hP3)) (AllBare.movedS (I1.bare.push hgb) hm)
      rw [GxR.sh_eta s1 s' hm.os] at J
      exact ⟨upd H1 P (.tbl (ps ++ more)), ⟨⟨ps ++ more, upd_same, ht3⟩, fun b hb => upd_ne hb⟩, J⟩
theorem gen_src {c P : Addr} {elt iter : Expr} {ifs : List Expr} {x : Str} {px gpos : Pos} {scope : Scope} {te : TE} {k : Nat} {Q' : Value → Shared → Prop} {R : V → Hp → Prop}
    (hr : Room k X.A) (TB : GxR.TabB X.base X.mg c P) (hcode : X.env.code = .ref c) (S : GxR.GenS X.env scope x) (hi : PE X iter te) (hs : ∀ v, genFold iter X.env v = pure v) (I : Inv X pins σ H s) (h : te σ H fun v H1 => GxR.TabG H1 P ∧ R v H1)
    (hQ : ∀ v u H1 s1, Inv X pins σ H1 s1 → RelV v u → GxR.TabG H1 P → R v H1 → ∃ n Pf pz F, Src X P u s1 n Pf ∧ Elt X P s1 scope x ifs elt Pf pz F ∧ ∀ g s5, Rdy X pins σ H1 P n pz F g s5 → Q' (.ref g) s5) :
    wpAny (model X.prog X.w) X.A (eval (.GeneratorExp elt [⟨.Name x px, iter, ifs, 0⟩] scope gpos) X.env) Q' X.xe s :=
  gen_src0 (Rr := fun u H1 _ => ∃ v, RelV v u ∧ R v H1) hr TB hcode S hs (thn (hi.run pins s σ H _ I h) fun _ _ ⟨v, H1, I1, r1, ht, q1⟩ => ⟨H1, I1, ht, v, r1, q1⟩) fun u H1 s1 I1 ht ⟨v, r1, q1⟩ => hQ v u H1 s1 I1 r1 ht q1
/-- what stands in the text stands wherever the generator runs -/
theorem low_at {P : Addr} {ps : Array Value} {H1 : Hp} {s1 : Shared} {h' : Heap} (I : Inv X pins σ H1 s1) (hP : H1 P = some (.tbl ps)) (k : ∀ b o, b ≠ P → s1.heap.get? b = some o → h'.get? b = some o) : Low X.K X.mg h' := by
  have kb : ∀ b o, X.base.get? b = some o → h'.get? b = some o := fun b o e => k b o (fun z => by
    have q := (I.bs b o e).2
    rw [z, hP] at q
    cases q) (I.bk b o e)
  exact Low.keeps ⟨I.mod.kin, I.mod.glob, I.mod.blt, I.mod.nolimit⟩ kb
/-- an item of which it is known whether it is whole -/
def Known (X : Cx) (P : Addr) (s1 : Shared) (v : Value) (b : Bool) : Prop :=
  ∃ (t : Value) (Pz : Heap → Prop) (b1 b2 : Bool), PySem.W.KitX X.K v t Pz ∧ (∀ h', (∀ a o, a ≠ P → s1.heap.get? a = some o → h'.get? a = some o) → Pz h') ∧ v ≠ .builtin "__main__.__loader__#opaque" ∧ PySem.W.kitOne X.K t (.type "int") = some b1 ∧ PySem.W.kitOne X.K t (.type "bool") = some b2 ∧ b = (b1 && !b2)
theorem elt_whole {P : Addr} {ps : Array Value} {H1 : Hp} {s1 : Shared} {scope : Scope} {x : Str} {Pf : Nat → Value → Prop} {ws : List Bool} {st : Stmt} {fd : FuncData} {k : Nat} {a1 a2 a3 p1 p2 p3 p4 q1 q2 q3 q4 q5 r1 r2 : Pos} (I : Inv X pins σ H1 s1) (hP : H1 P = some (.tbl ps)) (hr : Room k X.A)
    (F : FnT X.K "is_whole" st fd) (S : FnScope ["thing"] ["thing"] (defScope st)) (hbd : defBody st = wholeBody p1 p2 p3 p4 q1 q2 q3 q4 q5 r1 r2)
    (hb : ∀ (kV doc pm : Value) (an : Option Addr) (cdv ct : Value) (us : List Value), us.length = 1 → bindArgs (PySem.W.fnOf "is_whole" "is_whole" (defArgs st) (defBody st) (defScope st) .none kV doc pm an cdv ct) ⟨us, []⟩ = pure ((["thing"] : List Str).zip us))
    (gi : (defScope st).names.lookup ("isinstance" : Str) = some .globalImplicit) (gn : (defScope st).names.lookup ("int" : Str) = some .globalImplicit) (gb : (defScope st).names.lookup ("bool" : Str) = some .globalImplicit)
    (hl : (defScope st).names.lookup ("thing" : Str) = some .local) (mi : X.mg "isinstance" = none) (mn : X.mg "int" = none) (mb : X.mg "bool" = none) (mw : X.mg "is_whole" = some (.ref (He.ga X.K "is_whole")))
    (hk : scope.kind = .function) (gw : scope.names.lookup ("is_whole" : Str) = some .globalImplicit) (hx : scope.names.lookup x = some .local) (hdx : (x == ("__debug__" : Str)) = false)
    (kn : ∀ i v, Pf i v → ∃ b, ws[i]? = some b ∧ Known X P s1 v b) :
    Elt X P s1 scope x [] (.Call (.Name "is_whole" a1) [.Name x a2] [] a3) Pf (fun _ => true) (fun i y => ∃ b, ws[i]? = some b ∧ y = .bool b) := by
  intro ce B E2 i v t m hB hD hU sc ge be cl hv hn hm kt
  subst sc
  refine ⟨?_, fun _ => ?_⟩
  · simp only [List.forIn_nil]
    exact wpAny_pure ⟨rfl, GxR.keeps_refl _⟩
  · obtain ⟨b, hw, tt, Pz, b1, b2, Z, pz, ho, e1, e2, rfl⟩ := kn i v hv
    have L := low_at I hP kt
    obtain ⟨oc, od, dV, kV, doc, pm, an, cdv, ct, osl, efd, lk, hcd, _, _⟩ := F.ex
    refine wpAny_Call_Name_kw (low_glob L hk gw ge mw ?_)
    have lk2 : X.K.lookup (He.ga X.K "is_whole") = some { cls := oc, dict := od, data := .func fd, slots := osl } := lk
    refine PyProof.Rows.callWith_def (o := { cls := oc, dict := od, data := .func fd, slots := osl }) (fd := fd) rfl ?_
    show wpAny _ _ (spliced ((false, eval (.Name x a2) ce) :: backTo a3 (starEach [] ce))) _ _ t
    refine Calls.spliced_cons (wpAny_Name (wpAny_loadName_local hk hx hn hm ?_) hdx)
    refine Calls.spliced_nil ⟨L.kin _ _ lk2, ?_⟩
    have rd := hr.dp
    exact whole_low F S hbd hb gi gn gb hl mi mn mb L (by omega) Z (fun h' k => pz h' fun a o na e => k a o (kt a o na e)) ho e1 e2 fun s' ks => ⟨⟨_, hw, rfl⟩, ks⟩
theorem all_getD (ws : List Bool) : (List.range ws.length).all (fun j => ws.getD j false) = ws.all id := by
  rw [Bool.eq_iff_iff, List.all_eq_true, List.all_eq_true]
  constructor
  · intro h b hb
    obtain ⟨j, hj, e⟩ := List.getElem_of_mem hb
    have q := h j (List.mem_range.mpr hj)
    rw [List.getD_eq_getElem?_getD, List.getElem?_eq_getElem hj, e] at q
    exact q
  · intro h j hj
    have hj' := List.mem_range.mp hj
    rw [List.getD_eq_getElem?_getD, List.getElem?_eq_getElem hj']
    exact h _ (List.getElem_mem hj')
/-- all(..) of a generator of truths that stands ready -/
theorem all_of {P : Addr} {H1 : Hp} {ws : List Bool} {g : Addr} {s5 : Shared} {Q : VK} (rd : Rdy X pins σ H1 P ws.length (fun _ => true) (fun i y => ∃ b, ws[i]? = some b ∧ y = .bool b) g s5) (q : ∀ H2, GxR.Tabbed P H1 H2 → Q (.bl (ws.all id)) H2) :
    wpAny (model X.prog X.w) X.A (call (.builtin "all") [.ref g]) (EP X pins σ Q) X.xe s5 := by
  obtain ⟨fp, wr, G, St, W, hst, hfp, hg, hty, hI⟩ := rd
  simp only [GxR.passing_true, List.length_range] at W
  refine call_all_walkS (W.in4_1.self 0 _ _ _ hst ⟨g, fp, wr, G, _, _, St, (fun j => ws.getD j false), rfl, W.in4_1, hst, ?_, fun s' hmv => ?_⟩)
  · intro j y sj Qj Ej hy hQj
    obtain ⟨i, hij, b, hb, rfl⟩ := hy
    obtain ⟨hj, ej⟩ := List.getElem?_eq_some_iff.mp hij
    rw [List.getElem_range] at ej
    subst ej
    have hQ2 : Qj (ws.getD j false) sj := hQj
    rw [List.getD_eq_getElem?_getD, hb] at hQ2
    exact wpAny_truthy_bool hQ2
  · obtain ⟨H2, hT, J⟩ := hI s' hmv
    refine ⟨.bl _, H2, J, rfl, ?_⟩
    rw [all_getD ws]
    exact q H2 hT
/-- is it a whole number: told of a value whose kind is known -/
inductive WholeV (H : Hp) (P : Addr) : V → Bool → Prop where
  | int (i : Int) : WholeV H P (.int i) true
  | bl (b : Bool) : WholeV H P (.bl b) false
  | str (z : Str) : WholeV H P (.str z) false
  | non : WholeV H P .non false
  | lst {a : Addr} {xs : List V} (h : H a = some (.lst xs)) (n : a ≠ P) : WholeV H P (.ref a) false
  | tup {a : Addr} {xs : List V} (h : H a = some (.tup xs)) (n : a ≠ P) : WholeV H P (.ref a) false
  | frz {a : Addr} {ob : Obj} {xs : List V} (h : H a = some (.frz ob (.tup xs))) (n : a ≠ P) : WholeV H P (.ref a) false
theorem known_of {P : Addr} {H1 : Hp} {s1 : Shared} {x : V} {u : Value} {b : Bool} (I : Inv X pins σ H1 s1) (r : RelV x u) (h : WholeV H1 P x b) : Known X P s1 u b := by
  cases h with
  | int i => obtain ⟨t, rfl⟩ := r; exact ⟨_, _, true, false, PySem.W.kitx_int, fun _ _ => trivial, fun z => (nomatch z), kit_ty (by decide +kernel), kit_ty (by decide +kernel), rfl⟩
  | bl c => cases r; exact ⟨_, _, true, true, PySem.W.kitx_bool, fun _ _ => trivial, fun z => (nomatch z), kit_ty (by decide +kernel), kit_ty (by decide +kernel), rfl⟩
  | str z => obtain ⟨t, rfl⟩ := r; exact ⟨_, _, false, false, PySem.W.kitx_str, fun _ _ => trivial, fun z => (nomatch z), kit_ty (by decide +kernel), kit_ty (by decide +kernel), rfl⟩
  | non => cases r; exact ⟨_, _, false, false, PySem.W.kitx_none, fun _ _ => trivial, fun z => (nomatch z), kit_ty (by decide +kernel), kit_ty (by decide +kernel), rfl⟩
  | @lst a xs h n =>
    obtain rfl : u = Value.ref a := r
    obtain ⟨_, its, _, k, ho⟩ := I.hok _ _ h
    exact ⟨_, _, false, false, PySem.W.kitx_list, fun h' k => ⟨_, k _ _ n ho, rfl⟩, fun z => (nomatch z), kit_ty (by decide +kernel), kit_ty (by decide +kernel), rfl⟩
  | @tup a xs h n =>
    obtain rfl : u = Value.ref a := r
    obtain ⟨_, its, _, o, ho, hc, _⟩ := I.hok _ _ h
    exact ⟨_, _, false, false, PySem.W.kitx_tuple, fun h' k => ⟨o, k _ _ n ho, hc⟩, fun z => (nomatch z), kit_ty (by decide +kernel), kit_ty (by decide +kernel), rfl⟩
  | @frz a ob xs h n =>
    obtain rfl : u = Value.ref a := r
    obtain ⟨_, _, its, _, o, ho, hc, _⟩ := I.hok _ _ h
    exact ⟨_, _, false, false, PySem.W.kitx_tuple, fun h' k => ⟨o, k _ _ n ho, hc⟩, fun z => (nomatch z), kit_ty (by decide +kernel), kit_ty (by decide +kernel), rfl⟩
/-- all(is_whole(x) for x in e), e a tuple; behind it the def's table may have grown -/
def tAllW (K : PySem.W.Frag) (P : Addr) (te : TE) : TE := fun σ H Q => te σ H fun v H1 => GxR.TabG H1 P ∧ ∃ (a : Addr) (xs : List V) (ws : List Bool), v = .ref a ∧ SqT K H1 a xs ∧ ws.length = xs.length ∧ (∀ (i : Nat) (y : V), xs[i]? = some y → ∃ b, ws[i]? = some b ∧ WholeV H1 P y b) ∧ ∀ H2, GxR.Tabbed P H1 H2 → Q (.bl (ws.all id)) H2
theorem pe_allW {c P : Addr} {iter : Expr} {x : Str} {px p pos gpos a1 a2 a3 p1 p2 p3 p4 q1 q2 q3 q4 q5 r1 r2 : Pos} {scope : Scope} {te : TE} {k : Nat} {st : Stmt} {fd : FuncData}
    (hr : Room k X.A) (hg : Gl X "all") (hm : X.mg "all" = none) (TB : GxR.TabB X.base X.mg c P) (hcode : X.env.code = .ref c) (S : GxR.GenS X.env scope x) (hi : PE X iter te) (hs : ∀ v, genFold iter X.env v = pure v)
    (F : FnT X.K "is_whole" st fd) (W : FnScope ["thing"] ["thing"] (defScope st)) (hbd : defBody st = wholeBody p1 p2 p3 p4 q1 q2 q3 q4 q5 r1 r2)
    (hb : ∀ (kV doc pm : Value) (an : Option Addr) (cdv ct : Value) (us : List Value), us.length = 1 → bindArgs (PySem.W.fnOf "is_whole" "is_whole" (defArgs st) (defBody st) (defScope st) .none kV doc pm an cdv ct) ⟨us, []⟩ = pure ((["thing"] : List Str).zip us))
    (gi : (defScope st).names.lookup ("isinstance" : Str) = some .globalImplicit) (gn : (defScope st).names.lookup ("int" : Str) = some .globalImplicit) (gb : (defScope st).names.lookup ("bool" : Str) = some .globalImplicit)
    (hl : (defScope st).names.lookup ("thing" : Str) = some .local) (mi : X.mg "isinstance" = none) (mn : X.mg "int" = none) (mb : X.mg "bool" = none) (mw : X.mg "is_whole" = some (.ref (He.ga X.K "is_whole")))
    (gw : scope.names.lookup ("is_whole" : Str) = some .globalImplicit) (hdx : (x == ("__debug__" : Str)) = false := by decide) (hbl : bootBuiltins "all" = some (.builtin "all") := by decide +kernel)
    (he : starEach [.GeneratorExp (.Call (.Name "is_whole" a1) [.Name x a2] [] a3) [⟨.Name x px, iter, [], 0⟩] scope gpos] X.env = (false, eval (.GeneratorExp (.Call (.Name "is_whole" a1) [.Name x a2] [] a3) [⟨.Name x px, iter, [], 0⟩] scope gpos) X.env) :: starEach [] X.env := by rfl) :
    PE X (.Call (.Name "all" p) [.GeneratorExp (.Call (.Name "is_whole" a1) [.Name x a2] [] a3) [⟨.Name x px, iter, [], 0⟩] scope gpos] [] pos) (tAllW X.K P te) := by
  refine ⟨fun pins s σ H Q I h => ?_⟩
  refine wpAny_Call_Name_kw (ld_blt I hg hm hbl ?_)
  refine PyProof.Rows.callWith_builtin1 ?_ he (by rfl)
  rw [he]
  show wpAny _ _ (spliced ((false, eval (.GeneratorExp (.Call (.Name "is_whole" a1) [.Name x a2] [] a3) [⟨.Name x px, iter, [], 0⟩] scope gpos) X.env) :: backTo pos (starEach [] X.env))) _ _ s
  refine Calls.spliced_cons (gen_src hr TB hcode S hi hs I h fun v u H1 s1 I1 r1 ht hv => ?_)
  obtain ⟨ps, hP, _⟩ := ht
  obtain ⟨a, xs, ws, rfl, hT, lw, kn, q⟩ := hv
  obtain rfl : u = Value.ref a := r1
  obtain ⟨its, rv, hz, src⟩ := src_tuple I1 hT ⟨ps, hP⟩
  refine ⟨xs.length, _, fun _ => true, fun i y => ∃ b, ws[i]? = some b ∧ y = .bool b, src, elt_whole I1 hP hr F W hbd hb gi gn gb hl mi mn mb mw S.kind gw S.loc hdx (fun i v hv => ?_), fun g s5 rd => ?_⟩
  · have li : i < xs.length := by
      rw [rv.length]
      exact (List.getElem?_eq_some_iff.mp hv).1
    obtain ⟨u, hu, ru⟩ := rv.get (List.getElem?_eq_getElem li)
    rw [hv] at hu
    obtain rfl := Option.some.inj hu
    obtain ⟨b, hb2, wv⟩ := kn i _ (List.getElem?_eq_getElem li)
    exact ⟨b, hb2, known_of I1 ru wv⟩
  · rw [← lw] at rd
    exact Calls.spliced_nil (all_of rd q)
/-- the items of a walk are these -/
theorem items_are {n : Nat} {pz : Nat → Bool} {F : Nat → Value → Prop} {f : Nat → V} {acc : Array Value} (h : ItemsOf (fun j y => ∃ i, (passing pz n 0)[j]? = some i ∧ F i y) acc (passing pz n 0).length) (hF : ∀ i y, i < n → F i y → RelV (f i) y) :
    Vals ((passing pz n 0).map f) acc.toList := by
  obtain ⟨hs, hi⟩ := h
  have key : ∀ (ps : List Nat) (vs : List Value), vs.length = ps.length → (∀ (j : Nat) (v : Value), vs[j]? = some v → ∃ i, ps[j]? = some i ∧ F i v) → (∀ i ∈ ps, i < n) → Vals (ps.map f) vs := by
    intro ps
    induction ps with
    | nil =>
      intro vs hl _ _
      cases vs with
      | nil => exact .nil
      | cons v vs => simp at hl
    | cons p ps ih =>
      intro vs hl h hn
      cases vs with
      | nil => simp at hl
      | cons v vs =>
        obtain ⟨i, e1, e2⟩ := h 0 v rfl
        obtain rfl : p = i := Option.some.inj e1
        exact .cons (hF _ _ (hn _ List.mem_cons_self) e2) (ih vs (by simpa using hl) (fun j u e => h (j + 1) u e) fun i m => hn i (List.mem_cons_of_mem _ m))
  refine key _ _ (by rw [Array.length_toList]; exact hs) (fun j v e => hi j v (by rw [← Array.getElem?_toList]; exact e)) fun i m => ?_
  unfold passing at m
  have m2 := (List.mem_filter.mp m).1
  simp at m2
  omega
/-- tuple(..) of a generator that stands ready -/
theorem tup_of {P : Addr} {H1 : Hp} {n : Nat} {pz : Nat → Bool} {F : Nat → Value → Prop} {f : Nat → V} {g : Addr} {s5 : Shared} {Q : VK} (rd : Rdy X pins σ H1 P n pz F g s5) (hF : ∀ i y, i < n → F i y → RelV (f i) y) (hz : n ≤ sizeLine)
    (q : ∀ H2 p ob, ob.dict = none → GxR.Tabbed P H1 H2 → H2 p = none → Q (.ref p) (upd H2 p (.frz ob (.tup ((passing pz n 0).map f))))) :
    wpAny (model X.prog X.w) X.A (call (.type "tuple") [.ref g]) (EP X pins σ Q) X.xe s5 := by
  obtain ⟨fp, wr, G, St, W, hst, hfp, hg, hty, hI⟩ := rd
  have hl : (passing pz n 0).length ≤ sizeLine := by
    refine Nat.le_trans ?_ hz
    unfold passing
    exact Nat.le_trans (List.length_filter_le _ _) (by simp)
  refine call_tuple_gen (hsz := hl) W.in4_3 hty hst hfp hg fun s' acc hm hacc => ?_
  obtain ⟨H2, hT, J⟩ := hI s' hm
  have hn : H2 s'.heap.objs.size = none := J.hok.fresh (Nat.le_refl _)
  refine ⟨.ref s'.heap.objs.size, _, J.laid (t' := s'.toks) (o := .frz { cls := .type "tuple", data := .seq acc 0 } (.tup ((passing pz n 0).map f))) (fun b ob e => Heap.get?_push_of_some _ e) (Nat.le_refl _) ?_, rfl, q _ _ _ rfl hT hn⟩
  refine ⟨Heap.get?_push_size _ rfl, by rw [List.length_map]; exact hl, acc.toList, items_are hacc hF, ?_⟩
  exact ⟨{ cls := .type "tuple", data := .seq acc 0 }, Heap.get?_push_size _ rfl, rfl, 0, by rw [Array.toArray_toList]⟩
end
end Up

set_option Elab.async false
set_option linter.all false
set_option maxRecDepth 100000
set_option maxHeartbeats 4000000
namespace Up
open PySem PySem.Spec PyProof.Rows L2
section
variable {X : Cx} {pins : List (Addr × Obj)} {σ : L2.St} {H1 : Hp} {P : Addr} {s1 : Shared} {scope : Scope} {x : Str} {v : Value}
/-- a generator's frame, at its item v -/
structure FrOk (X : Cx) (P : Addr) (s1 : Shared) (scope : Scope) (x : Str) (v : Value) (ce : Env) (B : Around) (t : Shared) : Prop where
  hd : B.handled = none
  dp : B.depth ≤ X.A.depth + 1
  un : B.units ≤ X.A.units + 8
  sc : ce.scope = scope
  ge : ce.globals = mainGlobals
  be : ce.builtins = builtinsNs
  cl : ce.cells = cloFrom X.env.cells scope.names []
  ns : ∃ m, t.heap.Ns ce.locals m ∧ m x = some v
  kt : ∀ b o, b ≠ P → s1.heap.get? b = some o → t.heap.get? b = some o
theorem FrOk.keeps {ce : Env} {B : Around} {t t' : Shared} (f : FrOk X P s1 scope x v ce B t) (k : Keeps t t') : FrOk X P s1 scope x v ce B t' :=
  ⟨f.hd, f.dp, f.un, f.sc, f.ge, f.be, f.cl, let ⟨m, h1, h2⟩ := f.ns; ⟨m, h1.keeps (keeps_heap k), h2⟩, fun b o n e => keeps_heap k b o (f.kt b o n e)⟩
/-- in the frame e comes to this value; nothing that stood is written -/
def LE (X : Cx) (P : Addr) (s1 : Shared) (scope : Scope) (x : Str) (v : Value) (e : Expr) (val : V) : Prop :=
  ∀ (ce : Env) (B : Around) (E2 : Value → Shared → Prop) (t : Shared), FrOk X P s1 scope x v ce B t → wpAny (model X.prog X.w) B (eval e ce) (fun y t' => RelV val y ∧ Keeps t t') E2 t
/-- a test in the frame -/
def LT (X : Cx) (P : Addr) (s1 : Shared) (scope : Scope) (x : Str) (v : Value) (e : Expr) (b : Bool) : Prop :=
  ∀ (ce : Env) (B : Around) (E2 : Value → Shared → Prop) (t : Shared), FrOk X P s1 scope x v ce B t → wpAny (model X.prog X.w) B (isTrue e ce (eval e ce)) (fun y t' => y = b ∧ Keeps t t') E2 t
theorem kp_tok (t : Shared) (k : Nat) : Keeps t { t with toks := k } := GxR.keeps_tok t k
theorem le_item {p : Pos} {val : V} (hk : scope.kind = .function) (hl : scope.names.lookup x = some .local) (r : RelV val v) (hd : (x == ("__debug__" : Str)) = false := by decide) : LE X P s1 scope x v (.Name x p) val := by
  intro ce B E2 t f
  obtain ⟨m, h1, h2⟩ := f.ns
  have e := f.sc
  subst e
  exact wpAny_Name (wpAny_loadName_local hk hl h1 h2 ⟨r, GxR.keeps_refl _⟩) hd
/-- a name captured from the def -/
theorem le_free {y : Str} {i : Nat} {val : V} {ps : Array Value} {p : Pos} (I : Inv X pins σ H1 s1) (hP : H1 P = some (.tbl ps)) (S : GxR.GenS X.env scope x) (hN : X.N[i]? = some y) (hσ : σ[i]? = some (some val)) (hc : X.env.kindOf y = some .cell) (hf : scope.names.lookup y = some .free)
    (hd : (y == ("__debug__" : Str)) = false := by decide) (hcd : (y == ("__classdict__" : Str)) = false := by decide) : LE X P s1 scope x v (.Name y p) val := by
  intro ce B E2 t f
  obtain ⟨m, hn, hl⟩ := I.loc
  obtain ⟨u, r, l⟩ := hl i y val hN hσ (Or.inr (Or.inl hc))
  rcases l with ⟨z, _⟩ | ⟨_, c, hcl, hcell⟩
  · rw [hc] at z; cases z
  · have e := f.sc
    subst e
    have hm : (y, NameKind.free) ∈ ce.scope.names := mem_of_lookup hf
    have hlk : ce.cells.lookup y = some c := by rw [f.cl]; exact NdefX.clo_has S.free hm hcl
    have ePs : s1.heap.get? P = some { cls := .none, data := .fields ps } := I.hok P _ hP
    obtain ⟨o, ho, hdv⟩ := hcell
    have cP : c ≠ P := fun z => by
      rw [z, ePs] at ho
      cases ho
      cases hdv
    exact wpAny_Name (wpAny_loadName_free S.kind hf hlk ⟨o, f.kt c o cP ho, hdv⟩ ⟨r, GxR.keeps_refl _⟩ hcd) hd
theorem le_int {i : Int} {j : Nat} {p : Pos} : LE X P s1 scope x v (.Constant (.int i) j p) (.int i) := by
  intro ce B E2 t f
  exact wpAny_Constant_int ⟨⟨_, rfl⟩, kp_tok _ _⟩
theorem le_bin {op : Operator} {g : Int → Int → Int} {a b : Expr} {i j : Int} {p : Pos} (ru : ∀ (B : Around) (E2 : Value → Shared → Prop) (i j : Int) (t u : Tok) (s : Shared) (Q : Value → Shared → Prop), Q (.int (g i j) s.toks) { s with toks := s.toks + 1 } → wpAny (model X.prog X.w) B (binaryOp op (.int i t) (.int j u)) Q E2 s)
    (ha : LE X P s1 scope x v a (.int i)) (hb : LE X P s1 scope x v b (.int j)) : LE X P s1 scope x v (.BinOp a op b p) (.int (g i j)) := by
  intro ce B E2 t f
  refine wpAny_BinOp (wpAny_mono (ha ce B E2 t f) (fun y t1 h => ?_) fun _ _ e => e)
  obtain ⟨⟨k1, rfl⟩, q1⟩ := h
  refine wpAny_mono (hb ce B E2 t1 (f.keeps q1)) (fun z t2 h => ?_) fun _ _ e => e
  obtain ⟨⟨k2, rfl⟩, q2⟩ := h
  exact ru B E2 i j k1 k2 t2 _ ⟨⟨_, rfl⟩, keeps_trans (keeps_trans q1 q2) (kp_tok _ _)⟩
theorem le_add {a b : Expr} {i j : Int} {p : Pos} (ha : LE X P s1 scope x v a (.int i)) (hb : LE X P s1 scope x v b (.int j)) : LE X P s1 scope x v (.BinOp a .Add b p) (.int (i + j)) :=
  le_bin (fun _ _ _ _ _ _ _ _ q => add_int q) ha hb
theorem le_sub {a b : Expr} {i j : Int} {p : Pos} (ha : LE X P s1 scope x v a (.int i)) (hb : LE X P s1 scope x v b (.int j)) : LE X P s1 scope x v (.BinOp a .Sub b p) (.int (i - j)) :=
  le_bin (fun _ _ _ _ _ _ _ _ q => sub_int q) ha hb
theorem lt_cmp {op : CmpOp} {g : Int → Int → Bool} {a b : Expr} {i j : Int} {p : Pos} (ru : ∀ (B : Around) (E2 : Value → Shared → Prop) (i j : Int) (t u : Tok) (s : Shared) (Q : Value → Shared → Prop), Q (.bool (g i j)) s → wpAny (model X.prog X.w) B (compareOp op (.int i t) (.int j u)) Q E2 s) (hm : behindInMarks op b = false)
    (ha : LE X P s1 scope x v a (.int i)) (hb : LE X P s1 scope x v b (.int j)) : LT X P s1 scope x v (.Compare a [op] [b] p) (g i j) := by
  intro ce B E2 t f
  refine wpAny_isTrue_Compare1 (wpAny_mono (ha ce B E2 t f) (fun y t1 h => ?_) fun _ _ e => e) hm
  obtain ⟨⟨k1, rfl⟩, q1⟩ := h
  refine wpAny_mono (hb ce B E2 t1 (f.keeps q1)) (fun z t2 h => ?_) fun _ _ e => e
  obtain ⟨⟨k2, rfl⟩, q2⟩ := h
  exact ru B E2 i j k1 k2 t2 _ (wpAny_truthy_bool ⟨rfl, keeps_trans q1 q2⟩)
theorem lt_gt {a b : Expr} {i j : Int} {p : Pos} (ha : LE X P s1 scope x v a (.int i)) (hb : LE X P s1 scope x v b (.int j)) : LT X P s1 scope x v (.Compare a [.Gt] [b] p) (decide (j < i)) :=
  lt_cmp (g := fun i j => decide (j < i)) (fun _ _ _ _ _ _ _ _ q => gt_int q) (nomark _) ha hb
theorem lt_lt {a b : Expr} {i j : Int} {p : Pos} (ha : LE X P s1 scope x v a (.int i)) (hb : LE X P s1 scope x v b (.int j)) : LT X P s1 scope x v (.Compare a [.Lt] [b] p) (decide (i < j)) :=
  lt_cmp (g := fun i j => decide (i < j)) (fun _ _ _ _ _ _ _ _ q => lt_int q) (nomark _) ha hb
theorem lt_ne {a b : Expr} {i j : Int} {p : Pos} (ha : LE X P s1 scope x v a (.int i)) (hb : LE X P s1 scope x v b (.int j)) : LT X P s1 scope x v (.Compare a [.NotEq] [b] p) (i != j) :=
  lt_cmp (g := fun i j => i != j) (fun _ _ _ _ _ _ _ _ q => PySem.P.ne_int q) (nomark _) ha hb
theorem le_if {c a b : Expr} {d : Bool} {va vb : V} {p : Pos} (hc : LT X P s1 scope x v c d) (ha : LE X P s1 scope x v a va) (hb : LE X P s1 scope x v b vb) : LE X P s1 scope x v (.IfExp c a b p) (if d then va else vb) := by
  intro ce B E2 t f
  refine wpAny_IfExp (wpAny_mono (hc ce B E2 t f) (fun y t1 h => ?_) fun _ _ e => e)
  obtain ⟨rfl, q1⟩ := h
  cases y with
  | true => exact wpAny_mono (ha ce B E2 t1 (f.keeps q1)) (fun z t2 h => ⟨h.1, keeps_trans q1 h.2⟩) fun _ _ e => e
  | false => exact wpAny_mono (hb ce B E2 t1 (f.keeps q1)) (fun z t2 h => ⟨h.1, keeps_trans q1 h.2⟩) fun _ _ e => e
theorem frOk_of {ce : Env} {B : Around} {t : Shared} {m : Str → Option Value} (hB : B.handled = none) (hD : B.depth ≤ X.A.depth + 1) (hU : B.units ≤ X.A.units + 8) (sc : ce.scope = scope) (ge : ce.globals = mainGlobals) (be : ce.builtins = builtinsNs) (cl : ce.cells = cloFrom X.env.cells scope.names [])
    (hn : t.heap.Ns ce.locals m) (hm : m x = some v) (kt : ∀ b o, b ≠ P → s1.heap.get? b = some o → t.heap.get? b = some o) : FrOk X P s1 scope x v ce B t := ⟨hB, hD, hU, sc, ge, be, cl, ⟨m, hn, hm⟩, kt⟩
/-- elements without a test -/
theorem elt_le {elt : Expr} {Pf : Nat → Value → Prop} {f : Nat → V} (h : ∀ i v, Pf i v → LE X P s1 scope x v elt (f i)) : Elt X P s1 scope x [] elt Pf (fun _ => true) (fun i y => RelV (f i) y) := by
  intro ce B E2 i v t m hB hD hU sc ge be cl hv hn hm kt
  refine ⟨?_, fun _ => h i v hv ce B E2 t (frOk_of hB hD hU sc ge be cl hn hm kt)⟩
  simp only [List.forIn_nil]
  exact wpAny_pure ⟨rfl, GxR.keeps_refl _⟩
/-- elements with one test -/
theorem elt_if {c elt : Expr} {Pf : Nat → Value → Prop} {pz : Nat → Bool} {f : Nat → V} (hc : ∀ i v, Pf i v → LT X P s1 scope x v c (pz i)) (h : ∀ i v, Pf i v → pz i = true → LE X P s1 scope x v elt (f i)) : Elt X P s1 scope x [c] elt Pf pz (fun i y => RelV (f i) y) := by
  intro ce B E2 i v t m hB hD hU sc ge be cl hv hn hm kt
  have fr := frOk_of hB hD hU sc ge be cl hn hm kt
  refine ⟨?_, fun hp => h i v hv hp ce B E2 t fr⟩
  rw [List.forIn_cons]
  simp only [if_true, bind_assoc, pure_bind, List.forIn_nil]
  exact wpAny_bind (wpAny_mono (hc i v hv ce B E2 t fr) (fun y t1 q => wpAny_pure q) fun _ _ e => e)
/-! ### read off the text: what an element comes to, told of the def's names, the heap, the item -/
abbrev RL := L2.St → Hp → V → V → Prop
abbrev RT := L2.St → Hp → V → Bool → Prop
structure PLE (X : Cx) (P : Addr) (scope : Scope) (x : Str) (e : Expr) (r : RL) : Prop where
  run : ∀ (pins : List (Addr × Obj)) (σ : L2.St) (H1 : Hp) (s1 : Shared) (w val : V) (v : Value), Inv X pins σ H1 s1 → GxR.TabG H1 P → RelV w v → r σ H1 w val → LE X P s1 scope x v e val
structure PLT (X : Cx) (P : Addr) (scope : Scope) (x : Str) (e : Expr) (r : RT) : Prop where
  run : ∀ (pins : List (Addr × Obj)) (σ : L2.St) (H1 : Hp) (s1 : Shared) (w : V) (b : Bool) (v : Value), Inv X pins σ H1 s1 → GxR.TabG H1 P → RelV w v → r σ H1 w b → LT X P s1 scope x v e b
def rItem : RL := fun _ _ w val => val = w
def rFree (i : Nat) : RL := fun σ _ _ val => σ[i]? = some (some val)
def rConst (c : Int) : RL := fun _ _ _ val => val = .int c
def rBin (g : Int → Int → Int) (a b : RL) : RL := fun σ H w val => ∃ i j, a σ H w (.int i) ∧ b σ H w (.int j) ∧ val = .int (g i j)
def rCmp (g : Int → Int → Bool) (a b : RL) : RT := fun σ H w d => ∃ i j, a σ H w (.int i) ∧ b σ H w (.int j) ∧ d = g i j
def rIfE (c : RT) (a b : RL) : RL := fun σ H w val => ∃ d va vb, c σ H w d ∧ a σ H w va ∧ b σ H w vb ∧ val = if d then va else vb
theorem ple_item {p : Pos} (hk : scope.kind = .function) (hl : scope.names.lookup x = some .local) (hd : (x == ("__debug__" : Str)) = false := by decide) : PLE X P scope x (.Name x p) rItem :=
  ⟨fun _ _ _ _ w val v _ _ r h => by cases h; exact le_item hk hl r hd⟩
theorem ple_free {y : Str} {p : Pos} (i : Nat) (S : GxR.GenS X.env scope x) (hN : X.N[i]? = some y) (hc : X.env.kindOf y = some .cell) (hf : scope.names.lookup y = some .free)
    (hd : (y == ("__debug__" : Str)) = false := by decide) (hcd : (y == ("__classdict__" : Str)) = false := by decide) : PLE X P scope x (.Name y p) (rFree i) :=
  ⟨fun _ _ _ _ w val v I ⟨_, hP, _⟩ _ h => le_free I hP S hN h hc hf hd hcd⟩
theorem ple_int {i : Int} {j : Nat} {p : Pos} : PLE X P scope x (.Constant (.int i) j p) (rConst i) := ⟨fun _ _ _ _ w val v _ _ _ h => by cases h; exact le_int⟩
theorem ple_add {a b : Expr} {ra rb : RL} {p : Pos} (ha : PLE X P scope x a ra) (hb : PLE X P scope x b rb) : PLE X P scope x (.BinOp a .Add b p) (rBin (fun i j => i + j) ra rb) :=
  ⟨fun _ _ _ _ w val v I hP r ⟨i, j, h1, h2, e⟩ => by subst e; exact le_add (ha.run _ _ _ _ _ _ _ I hP r h1) (hb.run _ _ _ _ _ _ _ I hP r h2)⟩
theorem ple_sub {a b : Expr} {ra rb : RL} {p : Pos} (ha : PLE X P scope x a ra) (hb : PLE X P scope x b rb) : PLE X P scope x (.BinOp a .Sub b p) (rBin (fun i j => i - j) ra rb) :=
  ⟨fun _ _ _ _ w val v I hP r ⟨i, j, h1, h2, e⟩ => by subst e; exact le_sub (ha.run _ _ _ _ _ _ _ I hP r h1) (hb.run _ _ _ _ _ _ _ I hP r h2)⟩
theorem plt_gt {a b : Expr} {ra rb : RL} {p : Pos} (ha : PLE X P scope x a ra) (hb : PLE X P scope x b rb) : PLT X P scope x (.Compare a [.Gt] [b] p) (rCmp (fun i j => decide (j < i)) ra rb) :=
  ⟨fun _ _ _ _ w d v I hP r ⟨i, j, h1, h2, e⟩ => by subst e; exact lt_gt (ha.run _ _ _ _ _ _ _ I hP r h1) (hb.run _ _ _ _ _ _ _ I hP r h2)⟩
theorem plt_lt {a b : Expr} {ra rb : RL} {p : Pos} (ha : PLE X P scope x a ra) (hb : PLE X P scope x b rb) : PLT X P scope x (.Compare a [.Lt] [b] p) (rCmp (fun i j => decide (i < j)) ra rb) :=
  ⟨fun _ _ _ _ w d v I hP r ⟨i, j, h1, h2, e⟩ => by subst e; exact lt_lt (ha.run _ _ _ _ _ _ _ I hP r h1) (hb.run _ _ _ _ _ _ _ I hP r h2)⟩
theorem plt_ne {a b : Expr} {ra rb : RL} {p : Pos} (ha : PLE X P scope x a ra) (hb : PLE X P scope x b rb) : PLT X P scope x (.Compare a [.NotEq] [b] p) (rCmp (fun i j => i != j) ra rb) :=
  ⟨fun _ _ _ _ w d v I hP r ⟨i, j, h1, h2, e⟩ => by subst e; exact lt_ne (ha.run _ _ _ _ _ _ _ I hP r h1) (hb.run _ _ _ _ _ _ _ I hP r h2)⟩
theorem ple_if {c a b : Expr} {rc : RT} {ra rb : RL} {p : Pos} (hc : PLT X P scope x c rc) (ha : PLE X P scope x a ra) (hb : PLE X P scope x b rb) : PLE X P scope x (.IfExp c a b p) (rIfE rc ra rb) :=
  ⟨fun _ _ _ _ w val v I hP r ⟨d, va, vb, h0, h1, h2, e⟩ => by subst e; exact le_if (hc.run _ _ _ _ _ _ _ I hP r h0) (ha.run _ _ _ _ _ _ _ I hP r h1) (hb.run _ _ _ _ _ _ _ I hP r h2)⟩
def rLenT (K : PySem.W.Frag) (ra : RL) : RL := fun σ H w val => ∃ a ys, ra σ H w (.ref a) ∧ SqT K H a ys ∧ val = .int ys.length
theorem ple_len {a : Expr} {ra : RL} {p1 p2 : Pos} (ha : PLE X P scope x a ra) (hk : scope.kind = .function) (gl : scope.names.lookup ("len" : Str) = some .globalImplicit) (ml : X.mg "len" = none) (he : ∀ ce, starEach [a] ce = (false, eval a ce) :: starEach [] ce := by intro _; rfl) : PLE X P scope x (.Call (.Name "len" p1) [a] [] p2) (rLenT X.K ra) := by
  refine ⟨fun pins σ H1 s1 w val v I hP r ⟨b, ys, h1, hT, e⟩ => ?_⟩
  subst e
  have hl := ha.run _ _ _ _ _ _ _ I hP r h1
  obtain ⟨ps, eP, _⟩ := hP
  obtain ⟨its, rv, ⟨ob, ho, hc, n, hd⟩, hz⟩ := I.tuple hT
  have ePs : s1.heap.get? P = some { cls := .none, data := .fields ps } := I.hok P _ eP
  have bP : b ≠ P := fun z => by
    rw [z, ePs] at ho
    have e2 := Option.some.inj ho
    rw [← e2] at hc
    cases hc
  intro ce B E2 t f
  have L := low_at I eP f.kt
  have sc := f.sc
  subst sc
  refine wpAny_Call_Name_kw (low_blt L hk gl f.ge f.be ml boot_len ?_)
  refine PyProof.Rows.callWith_builtin1 ?_ (he ce) (by rfl)
  rw [he ce]
  show wpAny _ _ (spliced ((false, eval a ce) :: backTo p2 (starEach [] ce))) _ _ t
  refine Calls.spliced_cons (wpAny_mono (hl ce B E2 t f) (fun y t1 hy => ?_) fun _ _ e => e)
  obtain ⟨hy, k1⟩ := hy
  obtain rfl : y = Value.ref b := hy
  refine Calls.spliced_nil ?_
  have ht1 : IsTup t1.heap b its.toArray := ⟨ob, keeps_heap k1 _ _ (f.kt _ _ bP ho), hc, n, hd⟩
  have hlen := rv.length
  have hs : sizeLine = 16777216 := sizeLine_eq
  refine len_tuple ht1 (by simp only [List.size_toArray]; omega) ⟨⟨_, by simp only [List.size_toArray]; rw [hlen]⟩, keeps_trans k1 (kp_tok _ _)⟩
/-- tuple(e for x in t), t a tuple; behind it the def's table may have grown -/
def tTupG (K : PySem.W.Frag) (P : Addr) (te : TE) (r : RL) : TE := fun σ H Q => te σ H fun v H1 => GxR.TabG H1 P ∧ ∃ (a : Addr) (xs : List V) (f : Nat → V), v = .ref a ∧ SqT K H1 a xs ∧ (∀ (i : Nat) (w : V), xs[i]? = some w → r σ H1 w (f i)) ∧
  ∀ H2 p ob, ob.dict = none → GxR.Tabbed P H1 H2 → H2 p = none → Q (.ref p) (upd H2 p (.frz ob (.tup ((List.range xs.length).map f))))
theorem pe_tupG {c P : Addr} {elt iter : Expr} {x : Str} {px p pos gpos : Pos} {scope : Scope} {te : TE} {r : RL} {k : Nat} (hr : Room k X.A) (hg : Gl X "tuple") (hm : X.mg "tuple" = none) (TB : GxR.TabB X.base X.mg c P) (hcode : X.env.code = .ref c) (S : GxR.GenS X.env scope x) (hi : PE X iter te)
    (hel : PLE X P scope x elt r) (hs : ∀ v, genFold iter X.env v = pure v) (hbl : bootBuiltins "tuple" = some (.type "tuple") := by decide +kernel)
    (he : starEach [.GeneratorExp elt [⟨.Name x px, iter, [], 0⟩] scope gpos] X.env = (false, eval (.GeneratorExp elt [⟨.Name x px, iter, [], 0⟩] scope gpos) X.env) :: starEach [] X.env := by rfl) :
    PE X (.Call (.Name "tuple" p) [.GeneratorExp elt [⟨.Name x px, iter, [], 0⟩] scope gpos] [] pos) (tTupG X.K P te r) := by
  refine ⟨fun pins s σ H Q I h => ?_⟩
  refine wpAny_Call_Name_kw (ld_blt I hg hm hbl ?_)
  refine PyProof.Rows.callWith_type1 ?_ he (by rfl)
  rw [he]
  show wpAny _ _ (spliced ((false, eval (.GeneratorExp elt [⟨.Name x px, iter, [], 0⟩] scope gpos) X.env) :: backTo pos (starEach [] X.env))) _ _ s
  refine Calls.spliced_cons (gen_src hr TB hcode S hi hs I h fun v u H1 s1 I1 r1 ht hv => ?_)
  obtain ⟨a, xs, f, rfl, hT, hf, q⟩ := hv
  obtain rfl : u = Value.ref a := r1
  obtain ⟨its, rv, hz, src⟩ := src_tuple I1 hT (let ⟨ps, e, _⟩ := ht; ⟨ps, e⟩)
  refine ⟨xs.length, _, fun _ => true, fun i y => RelV (f i) y, src, elt_le fun i v hv => ?_, fun g s5 rd => Calls.spliced_nil (tup_of rd (fun i y _ e => e) (by rw [rv.length]; exact hz) fun H2 p ob hd hT2 hn => ?_)⟩
  · have li : i < xs.length := by
      rw [rv.length]
      exact (List.getElem?_eq_some_iff.mp hv).1
    obtain ⟨u, hu, ru⟩ := rv.get (List.getElem?_eq_getElem li)
    rw [hv] at hu
    obtain rfl := Option.some.inj hu
    exact hel.run _ _ _ _ _ _ _ I1 ht ru (hf i _ (List.getElem?_eq_getElem li))
  · rw [GxR.passing_true]
    exact q H2 p ob hd hT2 hn
/-- tuple(e for x in t if c), t a tuple -/
def tTupF (K : PySem.W.Frag) (P : Addr) (te : TE) (rt : RT) (r : RL) : TE := fun σ H Q => te σ H fun v H1 => GxR.TabG H1 P ∧ ∃ (a : Addr) (xs : List V) (pz : Nat → Bool) (f : Nat → V), v = .ref a ∧ SqT K H1 a xs ∧ (∀ (i : Nat) (w : V), xs[i]? = some w → rt σ H1 w (pz i) ∧ (pz i = true → r σ H1 w (f i))) ∧
  ∀ H2 p ob, ob.dict = none → GxR.Tabbed P H1 H2 → H2 p = none → Q (.ref p) (upd H2 p (.frz ob (.tup (((List.range xs.length).filter pz).map f))))
theorem passing_filter (pz : Nat → Bool) (n : Nat) : passing pz n 0 = (List.range n).filter pz := by
  unfold passing
  simp
theorem pe_tupF {c P : Addr} {elt iter tst : Expr} {x : Str} {px p pos gpos : Pos} {scope : Scope} {te : TE} {rt : RT} {r : RL} {k : Nat} (hr : Room k X.A) (hg : Gl X "tuple") (hm : X.mg "tuple" = none) (TB : GxR.TabB X.base X.mg c P) (hcode : X.env.code = .ref c) (S : GxR.GenS X.env scope x) (hi : PE X iter te)
    (hc : PLT X P scope x tst rt) (hel : PLE X P scope x elt r) (hs : ∀ v, genFold iter X.env v = pure v) (hbl : bootBuiltins "tuple" = some (.type "tuple") := by decide +kernel)
    (he : starEach [.GeneratorExp elt [⟨.Name x px, iter, [tst], 0⟩] scope gpos] X.env = (false, eval (.GeneratorExp elt [⟨.Name x px, iter, [tst], 0⟩] scope gpos) X.env) :: starEach [] X.env := by rfl) :
    PE X (.Call (.Name "tuple" p) [.GeneratorExp elt [⟨.Name x px, iter, [tst], 0⟩] scope gpos] [] pos) (tTupF X.K P te rt r) := by
  refine ⟨fun pins s σ H Q I h => ?_⟩
  refine wpAny_Call_Name_kw (ld_blt I hg hm hbl (PyProof.Rows.callWith_type1 ?_ he (by rfl)))
  rw [he]
  show wpAny _ _ (spliced ((false, eval (.GeneratorExp elt [⟨.Name x px, iter, [tst], 0⟩] scope gpos) X.env) :: backTo pos (starEach [] X.env))) _ _ s
  refine Calls.spliced_cons (gen_src hr TB hcode S hi hs I h fun v u H1 s1 I1 r1 ht hv => ?_)
  obtain ⟨a, xs, pz, f, rfl, hT, hf, q⟩ := hv
  obtain rfl : u = Value.ref a := r1
  obtain ⟨its, rv, hz, src⟩ := src_tuple I1 hT (let ⟨ps, e, _⟩ := ht; ⟨ps, e⟩)
  have back : ∀ (i : Nat) (v : Value), its[i]? = some v → ∃ w, xs[i]? = some w ∧ RelV w v := fun i v hv => by
    have li : i < xs.length := by
      rw [rv.length]
      exact (List.getElem?_eq_some_iff.mp hv).1
    obtain ⟨u, hu, ru⟩ := rv.get (List.getElem?_eq_getElem li)
    rw [hv] at hu
    obtain rfl := Option.some.inj hu
    exact ⟨_, List.getElem?_eq_getElem li, ru⟩
  refine ⟨xs.length, _, pz, fun i y => RelV (f i) y, src, elt_if (fun i v hv => ?_) (fun i v hv hp => ?_), fun g s5 rd => Calls.spliced_nil (tup_of rd (fun i y _ e => e) (by rw [rv.length]; exact hz) fun H2 p ob hd hT2 hn => ?_)⟩
  · obtain ⟨w, hw, ru⟩ := back i v hv
    exact hc.run _ _ _ _ _ _ _ I1 ht ru (hf i w hw).1
  · obtain ⟨w, hw, ru⟩ := back i v hv
    exact hel.run _ _ _ _ _ _ _ I1 ht ru ((hf i w hw).2 hp)
  · rw [passing_filter]
    exact q H2 p ob hd hT2 hn
/-- tuple(l) of a list: a tuple of which it is known that it bears no attributes -/
def rTupZ (K : PySem.W.Frag) : List V → Hp → VK → Prop := fun vs H Q => ∃ a ys, vs = [V.ref a] ∧ SqL K H a ys ∧ ∀ (l : Addr) (ob : Obj), ob.dict = none → H l = none → Q (.ref l) (upd H l (.frz ob (.tup ys)))
theorem tupZK (K : PySem.W.Frag) (hK : X.K = K := by rfl) : CallR X (.type "tuple") (rTupZ K) := by
  subst hK
  intro pins s σ H vs us Q I r h
  obtain ⟨a, ys, rfl, hq, q⟩ := h
  obtain ⟨u, rfl, ru⟩ := vals1 r
  obtain rfl : u = Value.ref a := ru
  obtain ⟨its, rv, pl, hz⟩ := I.list hq
  have hl : its.length ≤ sizeLine := by rw [← rv.length]; exact hz
  refine call_tuple_list pl.isList (fun h' kp => ?_) (by rw [List.size_toArray]; exact hl)
  have J : Inv X pins σ H { s with heap := h' } := I.kept (t' := s.toks) kp
  refine ⟨.ref h'.objs.size, upd H h'.objs.size (.frz { cls := .type "tuple", data := .seq its.toArray } (.tup ys)), J.laid (t' := s.toks) (fun b o e => Heap.get?_push_of_some _ e) (Nat.le_refl _) ?_, rfl, q _ _ rfl (J.hok.fresh (Nat.le_refl _))⟩
  exact ⟨Heap.get?_push_size _ rfl, hz, its, rv, IsTup.new _ _⟩
/-- t.index(b) of a tuple of ints in the frame -/
def rTix (ra rb : RL) : RL := fun σ H w val => ∃ (a : Addr) (ob : Obj) (ns : List Int) (i : Int) (j : Nat), ra σ H w (.ref a) ∧ ob.dict = none ∧ H a = some (.frz ob (.tup (ns.map V.int))) ∧ rb σ H w (.int i) ∧ ns[j]? = some i ∧ (∀ m, m < j → ns[m]? ≠ some i) ∧ val = .int (j : Nat)
theorem ple_tix {a b : Expr} {ra rb : RL} {p1 p2 : Pos} (ha : PLE X P scope x a ra) (hb : PLE X P scope x b rb) (hbase : ∀ ce, attributeBase a "index" ce (eval a ce) = eval a ce := by intro _; rfl)
    (hfew : ∀ ce, ((backTo p2 (starEach [b] ce)).all (fun x => !x.1) && (backToKw p2 (keywordEach [] ce)).all (fun x => x.1.isSome) && decide ([b].length + ([] : List Keyword).length + (if ([] : List Keyword).isEmpty then 0 else 1) < 30)) = true := by intro _; rfl)
    (hline : (p1.endLine == p2.line) = true := by rfl) (he : ∀ ce, starEach [b] ce = (false, eval b ce) :: starEach [] ce := by intro _; rfl) : PLE X P scope x (.Call (.Attribute a "index" p1) [b] [] p2) (rTix ra rb) := by
  refine ⟨fun pins σ H1 s1 w val v I hP r ⟨c, ob, ns, i, j, h1, hd0, hT, h2, hj, hno, e⟩ => ?_⟩
  subst e
  have la := ha.run _ _ _ _ _ _ _ I hP r h1
  have lb := hb.run _ _ _ _ _ _ _ I hP r h2
  obtain ⟨ps, eP, _⟩ := hP
  obtain ⟨ho, hz, its, rv, o2, ho2, hc, n, hd⟩ := I.hok _ _ hT
  rw [ho] at ho2
  cases ho2
  have ePs : s1.heap.get? P = some { cls := .none, data := .fields ps } := I.hok P _ eP
  have cP : c ≠ P := fun z => by
    rw [z, ePs] at ho
    have e2 := Option.some.inj ho
    rw [← e2] at hc
    cases hc
  have ii := intsAre_of rv
  intro ce B E2 t f
  refine wpAny_Call_method_late (hbase ce) (hfew ce) hline rfl (wpAny_mono (la ce B E2 t f) (fun y t1 hy => ?_) fun _ _ e => e)
  obtain ⟨hy, k1⟩ := hy
  obtain rfl : y = Value.ref c := hy
  have g1 : t1.heap.get? c = some ob := keeps_heap k1 _ _ (f.kt _ _ cP ho)
  refine ⟨"tuple", "tuple.index", PySem.F.plainAttrs_tuple, PySem.F.slot_tuple_index, PySem.F.type_tuple_index, ⟨ob, g1, hc⟩, fun a' ea => ?_, ?_⟩
  · cases ea
    exact ⟨ob, g1, hd0⟩
  rw [he ce]
  refine Calls.callWith_builtin (by rfl) (Calls.evalArgs_plain ?_)
  show wpAny _ _ (spliced ((false, eval b ce) :: backTo p2 (starEach [] ce))) _ _ t1
  refine Calls.spliced_cons (wpAny_mono (lb ce B E2 t1 (f.keeps k1)) (fun y t2 hy => ?_) fun _ _ e => e)
  obtain ⟨⟨k, rfl⟩, k2⟩ := hy
  refine Calls.spliced_nil ?_
  have g2 : t2.heap.get? c = some ob := keeps_heap k2 _ _ g1
  have gi : ∀ (m : Nat) (z : Int), ns[m]? = some z → ∃ t, its[m]? = some (Value.int z t) := fun m z e => by
    obtain ⟨u, hu, t, ru⟩ := rv.get (i := m) (x := .int z) (by rw [List.getElem?_map, e]; rfl)
    exact ⟨t, by rw [hu, ru]⟩
  have hlen : its.length = ns.length := by rw [← rv.length, List.length_map]
  obtain ⟨tj, ej⟩ := gi j i hj
  obtain ⟨jl, ej2⟩ := List.getElem?_eq_some_iff.mp ej
  obtain ⟨cls, dd, dt, sl⟩ := ob
  simp only at hc hd
  subst hc hd
  refine call_meets PySem.F.slot_tuple_index ⟨_, g2, rfl⟩ PySem.F.entry_tuple_index (PySem.F.args_tuple_index_2 _ _) (_root_.TI.tuple_indexAt c its.toArray n dd sl (.int i k) (fun v => match v with | .int z _ => z == i | _ => false) j (by simpa using jl) ?_ ?_) ⟨g2, fun y hy => ?_, ⟨_, rfl⟩, keeps_trans (keeps_trans k1 k2) (kp_tok _ _)⟩
  · have e1 : its.toArray[j]'(by simpa using jl) = Value.int i tj := by simpa using ej2
    rw [e1]
    exact beq_self_eq_true i
  · intro m hm hmj
    have hm2 : m < ns.length := by
      rw [← hlen]
      simpa using hm
    obtain ⟨tm, em⟩ := gi m _ (List.getElem?_eq_getElem hm2)
    obtain ⟨_, em2⟩ := List.getElem?_eq_some_iff.mp em
    have e1 : its.toArray[m] = Value.int ns[m] tm := by simpa using em2
    rw [e1]
    exact beq_eq_false_iff_ne.mpr fun z => hno m hmj (by rw [List.getElem?_eq_getElem hm2, z])
  · obtain ⟨m, hm, em⟩ := List.getElem_of_mem (show y ∈ its by simpa using hy)
    have hm2 : m < ns.length := by rw [← hlen]; exact hm
    obtain ⟨tm, e3⟩ := gi m _ (List.getElem?_eq_getElem hm2)
    rw [List.getElem?_eq_getElem hm, em] at e3
    obtain rfl := Option.some.inj e3
    exact fun prog w E Q hq => SeqAt.EqAt.int_int _ _ _ _ prog w _ _ hq
/-- l.index(b) of a list of ints in the frame -/
def rLix (K : PySem.W.Frag) (ra rb : RL) : RL := fun σ H w val => ∃ (a : Addr) (ns : List Int) (i : Int) (j : Nat), ra σ H w (.ref a) ∧ SqL K H a (ns.map V.int) ∧ rb σ H w (.int i) ∧ ns[j]? = some i ∧ (∀ m, m < j → ns[m]? ≠ some i) ∧ val = .int (j : Nat)
theorem ple_lix {a b : Expr} {ra rb : RL} {p1 p2 : Pos} (ha : PLE X P scope x a ra) (hb : PLE X P scope x b rb) (hbase : ∀ ce, attributeBase a "index" ce (eval a ce) = eval a ce := by intro _; rfl)
    (hfew : ∀ ce, ((backTo p2 (starEach [b] ce)).all (fun x => !x.1) && (backToKw p2 (keywordEach [] ce)).all (fun x => x.1.isSome) && decide ([b].length + ([] : List Keyword).length + (if ([] : List Keyword).isEmpty then 0 else 1) < 30)) = true := by intro _; rfl)
    (hline : (p1.endLine == p2.line) = true := by rfl) (he : ∀ ce, starEach [b] ce = (false, eval b ce) :: starEach [] ce := by intro _; rfl) : PLE X P scope x (.Call (.Attribute a "index" p1) [b] [] p2) (rLix X.K ra rb) := by
  refine ⟨fun pins σ H1 s1 w val v I hP r ⟨c, ns, i, j, h1, hT, h2, hj, hno, e⟩ => ?_⟩
  subst e
  have la := ha.run _ _ _ _ _ _ _ I hP r h1
  have lb := hb.run _ _ _ _ _ _ _ I hP r h2
  obtain ⟨ps, eP, _⟩ := hP
  obtain ⟨its, rv, ⟨⟨cls, dd, dt, sl⟩, n, ho, hc, hd0, hd⟩, hz⟩ := I.list hT
  simp only at hc hd
  subst hc hd
  have ePs : s1.heap.get? P = some { cls := .none, data := .fields ps } := I.hok P _ eP
  have cP : c ≠ P := fun z => by
    rw [z, ePs] at ho
    cases ho
  intro ce B E2 t f
  refine wpAny_Call_method_late (hbase ce) (hfew ce) hline rfl (wpAny_mono (la ce B E2 t f) (fun y t1 hy => ?_) fun _ _ e => e)
  obtain ⟨hy, k1⟩ := hy
  obtain rfl : y = Value.ref c := hy
  have g1 := keeps_heap k1 _ _ (f.kt _ _ cP ho)
  refine ⟨"list", "list.index", PySem.F.plainAttrs_list, PySem.F.slot_list_index, PySem.F.type_list_index, ⟨_, g1, rfl⟩, fun a' ea => ?_, ?_⟩
  · cases ea
    exact ⟨_, g1, hd0⟩
  rw [he ce]
  refine Calls.callWith_builtin (by rfl) (Calls.evalArgs_plain ?_)
  show wpAny _ _ (spliced ((false, eval b ce) :: backTo p2 (starEach [] ce))) _ _ t1
  refine Calls.spliced_cons (wpAny_mono (lb ce B E2 t1 (f.keeps k1)) (fun y t2 hy => ?_) fun _ _ e => e)
  obtain ⟨⟨k, rfl⟩, k2⟩ := hy
  refine Calls.spliced_nil ?_
  have g2 := keeps_heap k2 _ _ g1
  have gi : ∀ (m : Nat) (z : Int), ns[m]? = some z → ∃ t, its[m]? = some (Value.int z t) := fun m z e => by
    obtain ⟨u, hu, t, ru⟩ := rv.get (i := m) (x := .int z) (by rw [List.getElem?_map, e]; rfl)
    exact ⟨t, by rw [hu, ru]⟩
  have hlen : its.length = ns.length := by rw [← rv.length, List.length_map]
  obtain ⟨tj, ej⟩ := gi j i hj
  obtain ⟨jl, ej2⟩ := List.getElem?_eq_some_iff.mp ej
  have hs : sizeLine = 16777216 := sizeLine_eq
  rw [List.length_map] at hz
  refine call_meets PySem.F.slot_list_index ⟨_, g2, rfl⟩ PySem.F.entry_list_index (PySem.F.args_list_index_2 _ _) (SeqAt.list_indexAt c its.toArray n dd sl (.int i k) (fun v => match v with | .int z _ => z == i | _ => false) j (by simpa using jl) (by omega) ?_ ?_) ⟨g2, fun y hy => ?_, ⟨_, rfl⟩, keeps_trans (keeps_trans k1 k2) (kp_tok _ _)⟩
  · have e1 : its.toArray[j]'(by simpa using jl) = Value.int i tj := by simpa using ej2
    rw [e1]
    exact beq_self_eq_true i
  · intro m hm hmj
    have hm2 : m < ns.length := by
      rw [← hlen]
      simpa using hm
    obtain ⟨tm, em⟩ := gi m _ (List.getElem?_eq_getElem hm2)
    obtain ⟨_, em2⟩ := List.getElem?_eq_some_iff.mp em
    have e1 : its.toArray[m] = Value.int ns[m] tm := by simpa using em2
    rw [e1]
    exact beq_eq_false_iff_ne.mpr fun z => hno m hmj (by rw [List.getElem?_eq_getElem hm2, z])
  · obtain ⟨m, hm, em⟩ := List.getElem_of_mem (show y ∈ its by simpa using hy)
    have hm2 : m < ns.length := by rw [← hlen]; exact hm
    obtain ⟨tm, e3⟩ := gi m _ (List.getElem?_eq_getElem hm2)
    rw [List.getElem?_eq_getElem hm, em] at e3
    obtain rfl := Option.some.inj e3
    exact fun prog w E Q hq => SeqAt.EqAt.int_int _ _ _ _ prog w _ _ hq
/-- the items' places are below the number of items -/
theorem walks_lt {prog : Program} {w : World} {A : Around} {I : Addr} {fp wr : List Addr} {n : Nat} {Pf : Nat → Value → Prop} {St : Nat → Heap → Prop} (W : Walks prog w A I fp wr n Pf St) : Walks prog w A I fp wr n (fun i v => i < n ∧ Pf i v) St where
  sub := W.sub
  frame := W.frame
  item := fun i s Q E hi st hQ => W.item i s Q E hi st fun v h tk hP hst hk => hQ v h tk ⟨hi, hP⟩ hst hk
  done := W.done
  self := W.self
theorem src_range {lo hi : Int} {r : Addr} {a b c : Tok} {P : Addr} {ps : Array Value} (hR : IsRange s1.heap r lo hi 1 a b c) (h1 : -(2 ^ 62) ≤ lo) (h2 : lo < 2 ^ 62) (h3 : -(2 ^ 62) ≤ hi) (h4 : hi < 2 ^ 62) (hP : s1.heap.get? P = some { cls := .none, data := .fields ps }) :
    Src X P (.ref r) s1 (hi - lo).toNat (fun i v => i < (hi - lo).toNat ∧ ∃ t, v = .int (lo + (i : Int) * 1) t) := by
  have Pl : P < s1.heap.objs.size := Heap.lt_size hP
  refine ⟨_, [s1.heap.objs.size], fun i h => IsRangeIter h s1.heap.objs.size (lo + (i : Nat) * 1) (((hi - lo).toNat : Int) - (i : Nat)) 1, fun R h => wpAny_pyIter_range hR (small_one h1 h2 h3 h4) h, fun A' hA => walks_lt (Walks.range hA s1.heap.objs.size lo 1 (hi - lo).toNat), fun b hb => ?_, fun h' k => ?_⟩
  · rw [List.mem_singleton.mp hb]; exact ⟨Nat.le_refl _, Nat.ne_of_gt Pl⟩
  · have e1 : lo + ((0 : Nat) : Int) * 1 = lo := by simp
    have e2 : (((hi - lo).toNat : Nat) : Int) - ((0 : Nat) : Int) = Builtin.Range.rangeSize lo hi 1 := by rw [rangeSize_one]; split <;> omega
    show IsRangeIter h' _ (lo + ((0 : Nat) : Int) * 1) ((((hi - lo).toNat : Nat) : Int) - ((0 : Nat) : Int)) 1
    rw [e1, e2]
    exact k _ _ (Nat.ne_of_gt Pl) (Heap.get?_push_size _ rfl)
/-- tuple(e for x in range(a, b)) -/
def tTupR (P : Addr) (ta : TA) (r : RL) : TE := fun σ H Q => ta σ H fun vs H1 => ∃ lo hi : Int, vs = [.int lo, .int hi] ∧ (-(2 ^ 62) ≤ lo ∧ lo < 2 ^ 62 ∧ -(2 ^ 62) ≤ hi ∧ hi < 2 ^ 62) ∧ (hi - lo).toNat ≤ sizeLine ∧ GxR.TabG H1 P ∧ ∃ f : Nat → V, (∀ i : Nat, i < (hi - lo).toNat → r σ H1 (.int (lo + (i : Int))) (f i)) ∧
  ∀ H2 p ob, ob.dict = none → GxR.Tabbed P H1 H2 → H2 p = none → Q (.ref p) (upd H2 p (.frz ob (.tup ((List.range (hi - lo).toNat).map f))))
theorem pe_tupR {c P : Addr} {elt a b : Expr} {x : Str} {px p pr qr pos gpos : Pos} {scope : Scope} {ta : TA} {r : RL} {k : Nat} (hr : Room k X.A) (hg : Gl X "tuple") (hm : X.mg "tuple" = none) (gr : Gl X "range") (mr : X.mg "range" = none) (TB : GxR.TabB X.base X.mg c P) (hcode : X.env.code = .ref c) (S : GxR.GenS X.env scope x)
    (ha : PA X [a, b] ta) (hel : PLE X P scope x elt r) (hs : ∀ v, genFold (.Call (.Name "range" pr) [a, b] [] qr) X.env v = pure v) (hbl : bootBuiltins "tuple" = some (.type "tuple") := by decide +kernel)
    (hs1 : starEach [a, b] X.env = [(false, eval a X.env), (false, eval b X.env)] := by rfl) (hs2 : starEach [b] X.env = [(false, eval b X.env)] := by rfl)
    (he : starEach [.GeneratorExp elt [⟨.Name x px, .Call (.Name "range" pr) [a, b] [] qr, [], 0⟩] scope gpos] X.env = (false, eval (.GeneratorExp elt [⟨.Name x px, .Call (.Name "range" pr) [a, b] [] qr, [], 0⟩] scope gpos) X.env) :: starEach [] X.env := by rfl) :
    PE X (.Call (.Name "tuple" p) [.GeneratorExp elt [⟨.Name x px, .Call (.Name "range" pr) [a, b] [] qr, [], 0⟩] scope gpos] [] pos) (tTupR P ta r) := by
  refine ⟨fun pins s σ H Q I h => ?_⟩
  refine wpAny_Call_Name_kw (ld_blt I hg hm hbl (PyProof.Rows.callWith_type1 ?_ he (by rfl)))
  rw [he]
  show wpAny _ _ (spliced ((false, eval (.GeneratorExp elt [⟨.Name x px, .Call (.Name "range" pr) [a, b] [] qr, [], 0⟩] scope gpos) X.env) :: backTo pos (starEach [] X.env))) _ _ s
  refine Calls.spliced_cons (gen_src0 (pins := pins) (σ := σ) (Rr := fun u H1 s1 => ∃ lo hi g1 g2 g3, ∃ r0 : Addr, u = .ref r0 ∧ IsRange s1.heap r0 lo hi 1 g1 g2 g3 ∧ (-(2 ^ 62) ≤ lo ∧ lo < 2 ^ 62 ∧ -(2 ^ 62) ≤ hi ∧ hi < 2 ^ 62) ∧ (hi - lo).toNat ≤ sizeLine ∧ ∃ f : Nat → V, (∀ i : Nat, i < (hi - lo).toNat → r σ H1 (.int (lo + (i : Int))) (f i)) ∧
      ∀ H2 p ob, ob.dict = none → GxR.Tabbed P H1 H2 → H2 p = none → Q (.ref p) (upd H2 p (.frz ob (.tup ((List.range (hi - lo).toNat).map f))))) hr TB hcode S hs ?_ fun u H1 s1 I1 ht hv => ?_)
  · refine Call_ (ld_blt I gr mr boot_range (PyProof.Rows.callWith_type1 (thn (ha.run qr pins s σ H _ I h) fun us s1 ⟨vs, H1, I1, r1, q1⟩ => ?_) (by rw [hs1, hs2]) (by rw [hs2]; rfl)))
    obtain ⟨lo, hi, e, hb, hz, ht, f, hf, q⟩ := q1
    subst e
    obtain ⟨u1, u2, rfl, ⟨t1, rfl⟩, ⟨t2, rfl⟩⟩ := vals2 r1
    exact call_range_2 ⟨H1, I1.kept (fun b o e => Heap.get?_push_of_some _ e), ht, lo, hi, _, _, _, _, rfl, IsRange.new .., hb, hz, f, hf, q⟩
  · obtain ⟨lo, hi, g1, g2, g3, r0, rfl, hR, ⟨h1, h2, h3, h4⟩, hz, f, hf, q⟩ := hv
    obtain ⟨ps, eP, _⟩ := id ht
    refine ⟨_, _, fun _ => true, fun i y => RelV (f i) y, src_range hR h1 h2 h3 h4 (I1.hok P _ eP), elt_le fun i v hv => ?_, fun g s5 rd => Calls.spliced_nil (tup_of rd (fun i y _ e => e) hz fun H2 p ob hd hT2 hn => ?_)⟩
    · obtain ⟨li, tk, rfl⟩ := hv
      exact hel.run _ _ _ _ (.int (lo + (i : Int))) _ _ I1 ht (show ∃ t, Value.int (lo + (i : Int) * 1) tk = Value.int (lo + (i : Int)) t from ⟨tk, by rw [Int.mul_one]⟩) (hf i li)
    · rw [GxR.passing_true]
      exact q H2 p ob hd hT2 hn
end
end Up

set_option Elab.async false
set_option linter.all false
set_option maxRecDepth 100000
set_option maxHeartbeats 4000000
namespace Up
open PySem PySem.Spec PyProof.Rows L2 SrtO Srt
section
variable {prog : Program} {w : World} {A : Around} {E : Value → Shared → Prop} {s : Shared}
/-- sorted of a tuple of ints -/
theorem sorted_tupI {l : Addr} {o : Obj} {vs : List Value} {n : Nat} {ns : List Int} {Q : Value → Shared → Prop} (ho : s.heap.get? l = some o) (hc : o.cls = .type "tuple") (hd : o.data = .seq vs.toArray n) (hz : vs.length ≤ sizeLine) (hI : IntsAre vs ns)
    (h : ∀ (out : List Value) (h1 h' : Heap) (ep : Nat), IntsAre out (out.map iv) → (out.map iv).Perm ns → (out.map iv).Pairwise (· ≤ ·) → out.length ≤ sizeLine → (∀ b u, s.heap.get? b = some u → h1.get? b = some u) → (∀ b u, h1.get? b = some u → h'.get? b = some u) → h'.get? h1.objs.size = some (seqObj "list" out.toArray ep) → Q (.ref h1.objs.size) { s with heap := h' }) :
    wpAny (model prog w) A (call (.builtin "sorted") [.ref l]) Q E s := by
  refine Calls.call_function_entry kind_sorted plain_sorted entry_sorted (args_sorted1 _) ?_
  unfold Builtin.«sorted»
  refine wpAny_bind (m := checkCount "sorted" 1 1 _) (wpAny_pure ?_)
  refine wpAny_bind (wpAny_collect_seq l (T := "tuple") (.inr rfl) ho hc hd (fun h1 k1 => ?_) (by rw [List.size_toArray]; exact hz))
  refine wpAny_bind (wpAny_newList ?_ (by simpa using hz))
  show wpAny _ _ _ _ _ { s with heap := h1.push (seqObj "list" vs.toArray 0) }
  have eL : (h1.push (seqObj "list" vs.toArray 0)).get? h1.objs.size = some (seqObj "list" vs.toArray 0) := Heap.get?_push_size _ rfl
  refine wpAny_bind (wpAny_holding (wpAny_call_entry slot_list_sort ⟨_, eL, rfl⟩ entry_list_sort (list_sort_ord swo_int eL hz (fun h2 => ints_sortable (s := { s with heap := h1.push (seqObj "list" vs.toArray 0) }) hI h2) fun out hs hb => ⟨_, rfl, ?_⟩) (args_list_sort _)))
  obtain ⟨q1, q2, q3⟩ := ints_out hI hs hb
  obtain ⟨ep, he⟩ := PyProof.Rows.sortedHeap_at (vs := vs) (out := out.toArray) eL
  refine wpAny_pure ⟨_, rfl, h out h1 _ ep q1 q2 q3 (by rw [hb.len]; exact hz) k1 (fun b u e => ?_) he⟩
  have lb : b < h1.objs.size := Heap.lt_size e
  rw [PyProof.Rows.sortedHeap_old (Nat.ne_of_lt lb) (by rw [size_push']; exact Nat.lt_succ_of_lt lb)]
  exact Heap.get?_push_of_some _ e
end
section
variable {X : Cx}
/-- sorted(t), t a tuple of ints: a rising list -/
def rSortedTup (K : PySem.W.Frag) : List V → Hp → VK → Prop := fun vs H Q => ∃ (a : Addr) (ns : List Int), vs = [V.ref a] ∧ SqT K H a (ns.map V.int) ∧ ∀ (ms : List Int) (p : Addr), ms.Perm ns → ms.Pairwise (· ≤ ·) → H p = none → Q (.ref p) (upd H p (.lst (ms.map V.int)))
theorem sortedTupK (K : PySem.W.Frag) (hK : X.K = K := by rfl) : CallR X (.builtin "sorted") (rSortedTup K) := by
  subst hK
  intro pins s σ H vs us Q I r h
  obtain ⟨a, ns, rfl, hT, q⟩ := h
  obtain ⟨u, rfl, ru⟩ := vals1 r
  obtain rfl : u = Value.ref a := ru
  obtain ⟨its, rv, ⟨o, ho, hc, n, hd⟩, hz⟩ := I.tuple hT
  have hl : its.length ≤ sizeLine := by rw [← rv.length]; exact hz
  refine sorted_tupI ho hc hd hl (by simpa using intsAre_of rv) fun out h1 h' ep q1 q2 q3 q4 k1 k2 he => ?_
  have J : Inv X pins σ H { s with heap := h1 } := I.kept (t' := s.toks) k1
  refine ⟨.ref h1.objs.size, upd H h1.objs.size (.lst ((out.map iv).map V.int)), J.laid (t' := s.toks) k2 (Nat.le_refl _) ?_, rfl, q _ _ q2 q3 (J.hok.fresh (Nat.le_refl _))⟩
  exact ⟨by rw [List.length_map, List.length_map]; exact q4, out, ep, vals_of_ints q1, he⟩
/-- len(set(t)), t a tuple of unlike ints -/
def tLenSetT (K : PySem.W.Frag) (ta : TE) : TE := fun σ H Q => ta σ H fun x H1 => ∃ (l : Addr) (ns : List Int), x = V.ref l ∧ SqT K H1 l (ns.map V.int) ∧ ns.length < 64 ∧ ns.Nodup ∧ Q (.int ns.length) H1
theorem pe_lenSetT {a : Expr} {ta : TE} {p p2 q pos : Pos} (hc : X.calm = true) (hg : Gl X "len") (hm : X.mg "len" = none) (hg2 : Gl X "set") (hm2 : X.mg "set" = none) (ha : PE X a ta)
    (na : starEach [a] X.env = (false, eval a X.env) :: starEach [] X.env := by rfl) : PE X (.Call (.Name "len" p) [.Call (.Name "set" p2) [a] [] q] [] pos) (tLenSetT X.K ta) := by
  refine ⟨fun pins s σ H Q I h => ?_⟩
  refine Call_ (ld_blt I hg hm PySem.boot_len (PyProof.Rows.callWith_builtin1 (PyProof.Rows.args_cons ?_ rfl) rfl rfl))
  refine Call_ (ld_blt I hg2 hm2 PyProof.Rows.boot_set (PyProof.Rows.callWith_type1 (PyProof.Rows.args_cons (thn (ha.run pins s σ H _ I h) fun v s1 hv => PyProof.Rows.args_nil ?_) na) na rfl))
  obtain ⟨x, H1, I1, r1, l, ns, rfl, hT, h64, hnd, q1⟩ := hv
  obtain rfl : v = Value.ref l := r1
  obtain ⟨its, rv, ⟨ob, ho, hcl, n, hd⟩, hz⟩ := I1.tuple hT
  refine L2.call_set_tupI ns (I1.ok.hd hc) ⟨ob, ho, hcl, n, hd⟩ (by simpa using intsAre_of rv) (by unfold scanBound; omega) fun h' tk c hS hcle hk => ?_
  refine PyProof.Rows.args_nil ?_
  obtain ⟨o, es, ep, t, hso, hex, hsd, _, hndk, hmem, _, hf, hn, _⟩ := hS
  have hc2 : c = ns.length := by
    have pm : (es.toList.map keyOf).Perm ns := (List.perm_ext_iff_of_nodup hndk hnd).mpr fun k => by
      rw [← hmem k]
      exact decide_eq_true_iff
    have := pm.length_eq
    rw [List.length_map, Array.length_toList, hn] at this
    exact this
  have I2 : Inv X pins σ H1 { s1 with heap := h', toks := tk } := I1.kept fun b o e => hk b o e
  refine call_len_set hso hex hsd hf (by rw [hn, hc2]; omega) ⟨.int ns.length, H1, I2.tok _, ⟨_, by rw [hn, hc2]⟩, q1⟩
end
end Up

set_option Elab.async false
set_option linter.all false
set_option maxRecDepth 100000
set_option maxHeartbeats 2000000
/-! defs with generator expressions: their scopes, and what becomes of their tables -/
namespace Up
open PySem PySem.Spec PyProof.Rows L2
def genSB (ds sc : Scope) (x : Str) : Bool :=
  (decide (sc.kind = .function) && (!sc.isCoroutine && (sc.names.all fun y => !decide (y.2 = .cell) && (!decide (y.2 = .free) || decide (ds.names.lookup y.1 = some .cell))))) && (decide (sc.names.lookup (".0" : Str) = some NameKind.local) && decide (sc.names.lookup x = some NameKind.local))
theorem genS_by {ds sc : Scope} {x qual : Str} {L f : Addr} {cd : Value} (h : genSB ds sc x = true) : GxR.GenS (envOfC qual ds L f cd) sc x := by
  unfold genSB at h
  simp only [Bool.and_eq_true, Bool.or_eq_true, Bool.not_eq_true', decide_eq_true_eq, decide_eq_false_iff_not, List.all_eq_true] at h
  obtain ⟨⟨h1, h2, h3⟩, h4, h5⟩ := h
  refine ⟨h1, h2, fun y hy => (h3 y hy).1, h4, h5, fun y hy e => ?_⟩
  rcases (h3 y hy).2 with z | z
  · exact absurd e z
  · have k := PySem.W.cellsFrom_some (x := y.1) ds.names (L + 1) [] (.inl z)
    cases q : (cellsFrom (L + 1) ds.names []).lookup y.1 with
    | none => rw [q] at k; cases k
    | some c => exact ⟨c, q⟩
theorem tab_of {base : Heap} {mg : Str → Option Value} {c P : Addr} (t : LamX.TabB base mg c P) : GxR.TabB base mg c P := ⟨t.code, t.bm, t.gP⟩
/-- the tables stand -/
def TG (Ps : List Addr) (H : Hp) : Prop := ∀ P ∈ Ps, GxR.TabG H P
/-- what is no table stays as it is, the tables stand -/
structure Go (Ps : List Addr) (H H' : Hp) : Prop where
  ext : LamX.ExtN H H'
  tab : TG Ps H'
  oth : ∀ b o, H b = some o → b ∉ Ps → H' b = some o
theorem TG.same {Ps : List Addr} {H H' : Hp} (t : TG Ps H) (s : Same H H') : TG Ps H' := fun P hP => by
  obtain ⟨ps, e, k⟩ := t P hP
  exact ⟨ps, s _ _ e, k⟩
theorem TG.set {Ps : List Addr} {H : Hp} {p : Addr} {xs : List V} {o : HO} (t : TG Ps H) (h : H p = some (.lst xs)) : TG Ps (upd H p o) := fun P hP => by
  obtain ⟨ps, e, k⟩ := t P hP
  exact ⟨ps, by rw [upd_ne fun z => by rw [z, h] at e; cases e]; exact e, k⟩
theorem Go.refl {Ps : List Addr} {H : Hp} (t : TG Ps H) : Go Ps H H := ⟨LamX.ExtN.refl _, t, fun _ _ e _ => e⟩
theorem Go.trans {Ps : List Addr} {H H1 H2 : Hp} (a : Go Ps H H1) (b : Go Ps H1 H2) : Go Ps H H2 := ⟨a.ext.trans b.ext, b.tab, fun q o e n => b.oth q o (a.oth q o e n) n⟩
theorem Go.same {Ps : List Addr} {H H1 H2 : Hp} (a : Go Ps H H1) (s : Same H1 H2) : Go Ps H H2 := ⟨a.ext.trans (Same.ext s), a.tab.same s, fun q o e n => s _ _ (a.oth q o e n)⟩
theorem Go.of {Ps : List Addr} {H H' : Hp} (t : TG Ps H) (s : Same H H') : Go Ps H H' := (Go.refl t).same s
/-- a list made since is changed -/
theorem Go.set {Ps : List Addr} {H H' : Hp} {p : Addr} {xs : List V} {o : HO} (a : Go Ps H H') (n : H p = none) (h : H' p = some (.lst xs)) : Go Ps H (upd H' p o) := ⟨ext_set a.ext n, a.tab.set h, fun q u e k => by rw [upd_ne (ne_of_none e n)]; exact a.oth q u e k⟩
theorem Go.tabbed {Ps : List Addr} {H H1 H2 : Hp} {P : Addr} (a : Go Ps H H1) (hP : GxR.TabG H1 P) (t : GxR.Tabbed P H1 H2) (hm : P ∈ Ps := by assumption) : Go Ps H H2 := by
  obtain ⟨ps, eP, _⟩ := hP
  refine ⟨a.ext.trans fun b o e n => ?_, fun q hq => ?_, fun b o e n => ?_⟩
  · rw [t.2 b fun z => by rw [z, eP] at e; exact n _ (Option.some.inj e).symm]; exact e
  · by_cases z : q = P
    · rw [z]; exact t.1
    · obtain ⟨qs, e, k⟩ := a.tab q hq
      exact ⟨qs, by rw [t.2 q z]; exact e, k⟩
  · rw [t.2 b fun z => n (z ▸ hm)]; exact a.oth b o e n
/-- tables of another kind stay -/
theorem Go.tabs {Ps : List Addr} {H H' : Hp} {Ts : List (Addr × Str)} (a : Go Ps H H') (t : LamX.Tabs Ts H) (n : ∀ p ∈ Ts, p.1 ∉ Ps) : LamX.Tabs Ts H' := fun p hp => by
  obtain ⟨ps, e, k, c⟩ := t p hp
  refine ⟨ps, a.oth _ _ e (n p hp), k, fun pos cv hc => ?_⟩
  obtain ⟨q, e1, e2⟩ := c pos cv hc
  exact ⟨q, e1, a.ext _ _ e2 fun _ z => by unfold LamX.CodeO at z; cases z⟩
theorem ext_sqt {K : PySem.W.Frag} {H H' : Hp} {a : Addr} {xs : List V} (e : LamX.ExtN H H') (h : SqT K H a xs) : SqT K H' a xs := by
  rcases h with (h | ⟨o, h⟩) | h
  · exact .inl (.inl (e _ _ h (fun _ z => by cases z)))
  · exact .inl (.inr ⟨o, e _ _ h (fun _ z => by cases z)⟩)
  · exact .inr h
theorem ext_none {H H' : Hp} {p : Addr} (e : LamX.ExtN H H') {Ps : List Addr} (h : H' p = none) (t : ∀ b ps, H b = some (.tbl ps) → b ∈ Ps) (g : TG Ps H') : H p = none := by
  cases q : H p with
  | none => rfl
  | some o =>
    by_cases z : ∃ ps, o = .tbl ps
    · obtain ⟨ps, rfl⟩ := z
      obtain ⟨_, e2, _⟩ := g p (t _ _ q)
      rw [e2] at h; cases h
    · rw [e _ _ q fun ps y => z ⟨ps, y⟩] at h; cases h
end Up

set_option Elab.async false
set_option linter.all false
set_option maxRecDepth 100000
set_option maxHeartbeats 2000000
/-! own rules: a tuple and a text from behind -/
namespace Up
open PySem PySem.Spec PyProof.Rows L2
section
variable {X : Cx}
theorem applied_rev {prog : Program} {w : World} {A : Around} {E : Value → Shared → Prop} {s : Shared} {sl : Addr} {vs : Value} {n : Nat} {Q : Int × Int × Nat → Shared → Prop} (hs : s.heap.IsSliceOf sl .none .none vs) (ps : IsPart vs (some (-1)))
    (h : Q ((n : Int) - 1, -1, n) s) : wpAny (model prog w) A (Builtin.Slice.sliceApplied (.ref sl) (pure (n : Int))) Q E s := by
  obtain ⟨os, hos, hcs, hds⟩ := id hs
  unfold Builtin.Slice.sliceApplied Builtin.Slice.sliceFields
  refine wpAny_bind (wpAny_bind (wpAny_field hos hds (x := Value.none) rfl (wpAny_bind (wpAny_field hos hds (x := Value.none) rfl (wpAny_bind (wpAny_field hos hds (x := vs) rfl (wpAny_pure ?_)))))))
  refine wpAny_bind (HT.slicePart_ ps ?_)
  show wpAny _ _ (if ((-1 : Int) == 0) = true then _ else _) _ _ s
  rw [if_neg (by decide)]
  refine wpAny_bind (HT.slicePart_ .none (wpAny_bind (HT.slicePart_ .none (wpAny_bind (wpAny_pure ?_)))))
  have e : Builtin.Slice.slicePlaces ((n : Int) - 1) (-1) (-1) = n := by
    unfold Builtin.Slice.slicePlaces
    have h1 : ¬ ((-1 : Int) > 0) := by decide
    simp only [h1, if_false]
    rw [show (- -1 : Int) = 1 by decide, Int.ediv_one]
    split <;> omega
  show wpAny _ _ (pure ((n : Int) - 1, (-1 : Int), Builtin.Slice.slicePlaces ((n : Int) - 1) (-1) (-1))) _ _ s
  rw [e]
  exact wpAny_pure h
theorem fm_congr {α β : Type} {f g : α → Option β} : ∀ {l : List α}, (∀ x ∈ l, f x = g x) → l.filterMap f = l.filterMap g
  | [], _ => rfl
  | x :: l, h => by
    rw [List.filterMap_cons, List.filterMap_cons, h x List.mem_cons_self, fm_congr fun y hy => h y (List.mem_cons_of_mem _ hy)]
theorem pick_back (xs : Array Value) : ((List.range xs.size).filterMap fun (k : Nat) => xs[(((xs.size : Int) - 1) + (k : Int) * (-1)).toNat]?).toArray = xs.toList.reverse.toArray := by
  have e : (List.range xs.size).filterMap (fun (k : Nat) => xs[(((xs.size : Int) - 1) + (k : Int) * (-1)).toNat]?) = ((List.range xs.size).map fun k => xs.size - 1 - k).filterMap (xs[·]?) := by
    rw [List.filterMap_map]
    refine fm_congr fun k hk => ?_
    have := List.mem_range.mp hk
    show _ = xs[xs.size - 1 - k]?
    congr 1
    omega
  rw [e, PySem.W.krv_range, List.filterMap_reverse, PySem.W.krv_all]
theorem getItem_tuple_rev {prog : Program} {w : World} {A : Around} {E : Value → Shared → Prop} {s : Shared} {t sl : Addr} {items : Array Value} {vs : Value} {Q : Value → Shared → Prop} (ht : IsTup s.heap t items) (hs : s.heap.IsSliceOf sl .none .none vs) (ps : IsPart vs (some (-1)))
    (h : Q (.ref s.heap.objs.size) { s with heap := s.heap.push { cls := .type "tuple", data := .seq items.toList.reverse.toArray } })
    (hsz : items.size ≤ sizeLine) : wpAny (model prog w) A (getItem (.ref t) (.ref sl)) Q E s := by
  have htake : sizeOk (.seq items.toList.reverse.toArray) := by
    show items.toList.reverse.toArray.size ≤ sizeLine
    rw [List.size_toArray, List.length_reverse, Array.length_toList]
    exact hsz
  obtain ⟨os, hos, hcs, hds⟩ := id hs
  have hTs : s.TypeIs (.ref sl) "slice" := ⟨os, hos, hcs⟩
  unfold getItem
  refine wpAny_holding ?_
  refine wpAny_bind (wpAny_sequenceKey ht.typeIs (by decide) ?_)
  refine wpAny_bind (wpAny_callSpecial?_slot (name := Str.ofString "__getitem__") ht.typeIs PyProof.Rows.slot_tuple_getitem
    (wpAny_call_entry PyProof.Rows.slot_tuple_getitem ht.typeIs entry_tuple_getitem ?_ (args_tuple_getitem _ _)))
  show wpAny _ _ (Builtin.Tuple.tupleItemsOf (.ref t) >>= _) _ _ s
  refine wpAny_bind (tupleItemsOf_ ht ?_)
  refine wpAny_bind (wpAny_typeOf hTs ?_)
  rw [if_pos (by decide)]
  refine wpAny_bind (applied_rev hs ps ?_)
  show wpAny _ _ (if (((items.size : Int) - 1) == 0 && (-1 : Int) == 1 && items.size == items.size) = true then _ else _) _ _ s
  have hno : ¬ (((((items.size : Int) - 1) == 0) && (-1 : Int) == 1 && items.size == items.size) = true) := by
    rw [show ((-1 : Int) == 1) = false from by decide, Bool.and_false, Bool.false_and]
    exact Bool.false_ne_true
  rw [if_neg hno, pick_back]
  first
    | exact wpAny_bind (m := Builtin.Tuple.tupleExact _) (wpAny_newObj_type (wpAny_pure ⟨_, rfl, wpAny_pure h⟩) htake)
    | exact wpAny_bind (m := Builtin.Tuple.tupleExact _) (wpAny_newObj_type (wpAny_bind (wpAny_pure (wpAny_pure ⟨_, rfl, wpAny_pure h⟩))) htake)
    | exact wpAny_bind (wpAny_bind (m := Builtin.Tuple.tupleExact _) (wpAny_newObj_type (wpAny_pure (wpAny_pure ⟨_, rfl, wpAny_pure h⟩)) htake))
def tRevT (K : PySem.W.Frag) (te : TE) : TE := fun σ H Q => te σ H fun v H1 => ∃ a xs, v = .ref a ∧ SqT K H1 a xs ∧ ∀ p, H1 p = none → Q (.ref p) (upd H1 p (.tup xs.reverse))
theorem revTK (K : PySem.W.Frag) {e : Expr} {te : TE} {k : Nat} {p1 p2 p3 pos : Pos} (he : PE X e te) (hK : X.K = K := by rfl) : PE X (.Subscript e (.Slice none none (some (.UnaryOp .USub (.Constant (.int 1) k p1) p2)) p3) pos) (tRevT K te) := by
  subst hK
  refine ⟨fun pins s σ H Q I h => ?_⟩
  refine Subscript_ (thn (he.run pins s σ H _ I h) fun v s1 ⟨x, H1, I1, r1, q1⟩ => ?_)
  obtain ⟨a, xs, ex, hx, q⟩ := q1
  subst ex
  obtain rfl : v = Value.ref a := r1
  refine wpAny_Slice (thn (po_none.run pins s1 σ H1 (fun o H2 => o = none ∧ H2 = H1) I1 ⟨rfl, rfl⟩) fun vl s2 ⟨l, H2, I2, pl, el, e2⟩ => ?_)
  subst el e2
  refine thn (po_none.run pins s2 σ H2 (fun o H3 => o = none ∧ H3 = H2) I2 ⟨rfl, rfl⟩) fun vu s3 ⟨u, H3, I3, pu, eu, e3⟩ => ?_
  subst eu e3
  have hst : PO X (some (.UnaryOp .USub (.Constant (.int 1) k p1) p2)) (tPart (tUn (rU fun i => .int (-i)) (tC (.int 1)))) := po_some (pe_un un_neg pe_int)
  refine thn (hst.run pins s3 σ H3 (fun o H4 => o = some (-1) ∧ H4 = H3) I3 ⟨1, rfl, -1, rfl, rfl, rfl⟩) fun vs s4 ⟨o, H4, I4, ps, eo, e4⟩ => ?_
  subst eo e4
  cases pl
  cases pu
  have I5 : Inv X pins σ H4 { s4 with heap := s4.heap.push { cls := .type "slice", data := .fields #[.none, .none, vs] } } := I4.kept (t' := s4.toks) fun b ob q => Heap.get?_push_of_some _ q
  obtain ⟨its, r, ht, hz⟩ := I5.tuple hx
  have hlen := r.length
  show wpAny (model X.prog X.w) X.A (subscriptTail e (.Slice none none (some (.UnaryOp .USub (.Constant (.int 1) k p1) p2)) p3) (.ref a) (.ref s4.heap.objs.size)) (EP X pins σ Q) X.xe { s4 with heap := s4.heap.push { cls := .type "slice", data := .fields #[.none, .none, vs] } }
  refine tail_any (ops := [.ref a, .ref s4.heap.objs.size]) ht.typeIs (PyProof.Rows.slot_tuple_getitem.lookup) ?_ (by with_unfolding_all rfl)
  refine getItem_tuple_rev ht (Heap.IsSliceOf.new _ .none .none vs) ps ?_ (by rw [List.size_toArray]; omega)
  refine ⟨.ref _, _, I5.laid (t' := s4.toks) (o := .tup xs.reverse) (fun b ob q => Heap.get?_push_of_some _ q) (Nat.le_refl _) ?_, rfl, q _ (I5.hok.fresh (Nat.le_refl _))⟩
  exact ⟨by rw [List.length_reverse]; exact hz, _, r.reverse, IsTup.new _ _⟩
/-- a text from behind -/
def tRevS (te : TE) : TE := fun σ H Q => te σ H fun v H1 => ∃ z : Str, v = .str z ∧ z.length ≤ sizeLine ∧ Q (.str ⟨z.cps.toList.reverse.toArray⟩) H1
theorem str_back (z : Str) : ((Builtin.Str.strSliceIndices none none (-1) z.length).filterMap (z.cps[·]?)).toArray = z.cps.toList.reverse.toArray := by
  have e : Builtin.Str.strSliceIndices none none (-1) z.length = (List.range z.cps.size).reverse := by
    show sliceRange ((z.length : Int) - 1) (-1) (-1) = _
    rw [PySem.W.krv_sliceRange, PySem.W.krv_range]; rfl
  rw [e, List.filterMap_reverse, PySem.W.krv_all]
theorem pe_revS {e : Expr} {te : TE} {k : Nat} {p1 p2 p3 pos : Pos} (he : PE X e te) : PE X (.Subscript e (.Slice none none (some (.UnaryOp .USub (.Constant (.int 1) k p1) p2)) p3) pos) (tRevS te) := by
  refine ⟨fun pins s σ H Q I h => ?_⟩
  refine Subscript_ (thn (he.run pins s σ H _ I h) fun v s1 ⟨x, H1, I1, r1, q1⟩ => ?_)
  obtain ⟨z, ex, hz, q⟩ := q1
  subst ex
  obtain ⟨t, rfl⟩ := r1
  refine wpAny_Slice (thn (po_none.run pins s1 σ H1 (fun o H2 => o = none ∧ H2 = H1) I1 ⟨rfl, rfl⟩) fun vl s2 ⟨l, H2, I2, pl, el, e2⟩ => ?_)
  subst el e2
  refine thn (po_none.run pins s2 σ H2 (fun o H3 => o = none ∧ H3 = H2) I2 ⟨rfl, rfl⟩) fun vu s3 ⟨u, H3, I3, pu, eu, e3⟩ => ?_
  subst eu e3
  have hst : PO X (some (.UnaryOp .USub (.Constant (.int 1) k p1) p2)) (tPart (tUn (rU fun i => .int (-i)) (tC (.int 1)))) := po_some (pe_un un_neg pe_int)
  refine thn (hst.run pins s3 σ H3 (fun o H4 => o = some (-1) ∧ H4 = H3) I3 ⟨1, rfl, -1, rfl, rfl, rfl⟩) fun vs s4 ⟨o, H4, I4, ps, eo, e4⟩ => ?_
  subst eo e4
  cases pl
  cases pu
  obtain ⟨st, hst1, hst2⟩ := IsPart.raw ps
  have I5 : Inv X pins σ H4 { s4 with heap := s4.heap.push { cls := .type "slice", data := .fields #[.none, .none, vs] } } := I4.kept (t' := s4.toks) fun b ob q => Heap.get?_push_of_some _ q
  show wpAny (model X.prog X.w) X.A (subscriptTail e (.Slice none none (some (.UnaryOp .USub (.Constant (.int 1) k p1) p2)) p3) (.str z t) (.ref s4.heap.objs.size)) (EP X pins σ Q) X.xe { s4 with heap := s4.heap.push { cls := .type "slice", data := .fields #[.none, .none, vs] } }
  refine tail_any (ops := [.str z t, .ref s4.heap.objs.size]) (typeIs_str _ _ _) (PySem.F.slot_str_getitem.lookup) ?_ (by with_unfolding_all rfl)
  refine wpAny_getItem_str_slice (l := none) (u := none) (st := st) ⟨_, Heap.get?_push_size _ rfl, rfl, by rw [hst1]; rfl⟩ (by rw [hst2]; rfl) ?_
  have hno : ¬ (((st.map (·.1)).getD 1 == 1 && (slicePicked z none none st).length == z.length) = true) := by
    rw [hst2]
    intro c
    cases c
  unfold sliceMade
  rw [if_neg hno]
  have ep : ((slicePicked z none none st).filterMap (z.cps[·]?)).toArray = z.cps.toList.reverse.toArray := by
    rw [← str_back]
    unfold slicePicked
    rw [hst2]; rfl
  rw [ep]
  exact ⟨by show z.cps.toList.reverse.toArray.size ≤ sizeLine; rw [List.size_toArray, List.length_reverse, Array.length_toList]; exact hz, .str _, _, I5.tok _, ⟨_, rfl⟩, q⟩
end
end Up

set_option Elab.async false
set_option linter.all false
set_option maxRecDepth 100000
set_option maxHeartbeats 4000000
/-! own rule: s.join(e for a, b in zip(t, u)), t and u tuples of ints -/
namespace Up
open PySem PySem.Spec PyProof.Rows L2
section
variable {X : Cx} {pins : List (Addr × Obj)} {σ : L2.St} {H : Hp} {s : Shared}
/-- the element: from the two ints a text, wherever the generator runs -/
def PairE (prog : Program) (w : World) (scope : Scope) (xa xb : Str) (elt : Expr) (f : Int → Int → Str) : Prop :=
  ∀ (ce : Env) (B : Around) (E2 : Value → Shared → Prop) (i j : Int) (k l : Tok) (t : Shared) (m : Str → Option Value), ce.scope = scope → t.heap.Ns ce.locals m → m xa = some (.int i k) → m xb = some (.int j l) →
    wpAny (model prog w) B (eval elt ce) (fun y t' => (∃ tk, y = .str (f i j) tk) ∧ Keeps t t') E2 t
theorem pairE_lt {prog : Program} {w : World} {scope : Scope} {xa xb u d : Str} {j1 j2 : Nat} {p1 p2 p3 p4 p5 p6 : Pos} (hk : scope.kind = .function) (ha : scope.names.lookup xa = some .local) (hb : scope.names.lookup xb = some .local)
    (da : (xa == ("__debug__" : Str)) = false := by decide) (db : (xb == ("__debug__" : Str)) = false := by decide) :
    PairE prog w scope xa xb (.IfExp (.Compare (.Name xa p1) [.Lt] [.Name xb p2] p3) (.Constant (.str u) j1 p4) (.Constant (.str d) j2 p5) p6) (fun i j => if i < j then u else d) := by
  intro ce B E2 i j k l t m hs hn hma hmb
  subst hs
  refine wpAny_IfExp (wpAny_isTrue_Compare1 ?_ (nomark _))
  refine wpAny_Name (wpAny_loadName_local hk ha hn hma ?_) da
  refine wpAny_Name (wpAny_loadName_local hk hb hn hmb ?_) db
  refine lt_int (wpAny_truthy_bool ?_)
  by_cases c : i < j
  · rw [decide_eq_true c]
    show wpAny _ _ (eval (.Constant (.str u) j1 p4) ce) _ _ _
    refine wpAny_Constant_str ⟨⟨_, by show Value.str u _ = Value.str (if i < j then u else d) _; rw [if_pos c]⟩, GxR.keeps_tok _ _⟩
  · rw [decide_eq_false c]
    show wpAny _ _ (eval (.Constant (.str d) j2 p5) ce) _ _ _
    refine wpAny_Constant_str ⟨⟨_, by show Value.str d _ = Value.str (if i < j then u else d) _; rw [if_neg c]⟩, GxR.keeps_tok _ _⟩
theorem nq {a b : Nat} (h : a ≠ b) : @Ne Addr a b := h
theorem nm {x y z : Nat} (h1 : x ≠ y) (h2 : x ≠ z) : ¬ @Membership.mem Addr (List Addr) _ [y, z] x := fun h => by
  rcases List.mem_cons.mp h with e | e
  · exact h1 e
  · exact h2 (List.mem_singleton.mp e)
theorem gen_zip {c P : Addr} {elt e e2 : Expr} {xa xb : Str} {pa pb pt pz qz gpos : Pos} {kt : Nat} {scope : Scope} {k : Nat} {ta : TA} {f : Int → Int → Str} {Q' : Value → Shared → Prop} {R : List Int → List Int → Hp → Prop}
    (hr : Room k X.A) (TB : GxR.TabB X.base X.mg c P) (hcode : X.env.code = .ref c) (Sa : GxR.GenS X.env scope xa) (Sb : GxR.GenS X.env scope xb) (hab : xa ≠ xb) (hg : Gl X "zip") (hm : X.mg "zip" = none) (ha : PA X [e, e2] ta) (hel : PairE X.prog X.w scope xa xb elt f)
    (hs : ∀ v, genFold (.Call (.Name "zip" pz) [e, e2] [] qz) X.env v = pure v) (hs1 : starEach [e, e2] X.env = (false, eval e X.env) :: starEach [e2] X.env) (hpl : (backTo qz (starEach [e2] X.env)).any (·.1) = false)
    (I : Inv X pins σ H s) (h : ta σ H fun vs H1 => ∃ (a b : Addr) (xs ys : List Int), vs = [.ref a, .ref b] ∧ SqT X.K H1 a (xs.map V.int) ∧ SqT X.K H1 b (ys.map V.int) ∧ GxR.TabG H1 P ∧ R xs ys H1)
    (hQ : ∀ xs ys H1 g s5, R xs ys H1 → Rdy X pins σ H1 P (min xs.length ys.length) (fun _ => true) (fun i y => ∃ a b t, xs[i]? = some a ∧ ys[i]? = some b ∧ y = .str (f a b) t) g s5 → Q' (.ref g) s5) :
    wpAny (model X.prog X.w) X.A (eval (.GeneratorExp elt [⟨.Tuple [.Name xa pa, .Name xb pb] kt pt, .Call (.Name "zip" pz) [e, e2] [] qz, [], 0⟩] scope gpos) X.env) Q' X.xe s := by
  refine wpAny_GeneratorExp_walksQTD hr.hd Sa.co (closure_ok Sa.free) Sa.cell Sa.dot Sa.loc Sb.loc hab Sa.kind (by have := hr.dp; omega) ?_ hs
  refine Call_ (ld_blt I hg hm PyProof.Rows.boot_zip (PyProof.Rows.callWith_type1 (thn (ha.run qz pins s σ H _ I h) fun us s1 ⟨vs, H1, I1, r1, q1⟩ => ?_) hs1 hpl))
  obtain ⟨a, b, xs, ys, ex, hqx, hqy, ⟨ps, hP, ht⟩, hR⟩ := q1
  subst ex
  obtain ⟨u1, u2, rfl, ra, rb⟩ := vals2 r1
  obtain rfl : u1 = Value.ref a := ra
  obtain rfl : u2 = Value.ref b := rb
  obtain ⟨its, rv, p1, _⟩ := I1.tuple hqx
  obtain ⟨its2, rv2, p2, _⟩ := I1.tuple hqy
  obtain ⟨o1, ho1, hc1, n1, hd1⟩ := id p1
  obtain ⟨o2, ho2, hc2, n2, hd2⟩ := id p2
  have la : a < s1.heap.objs.size := Heap.lt_size ho1
  have lb : b < s1.heap.objs.size := Heap.lt_size ho2
  have ePs : s1.heap.get? P = some { cls := .none, data := .fields ps } := I1.hok P _ hP
  have lP : P < s1.heap.objs.size := Heap.lt_size ePs
  have aP : a ≠ P := fun z => by
    rw [z, ePs] at ho1
    cases ho1
    cases hc1
  have bP : b ≠ P := fun z => by
    rw [z, ePs] at ho2
    cases ho2
    cases hc2
  refine RZ.call_zipT (show s1.heap.IsTuple a its.toArray from p1) (show s1.heap.IsTuple b its2.toArray from p2) fun h' hz hTI hTO h1 h2 hsz hk => wpAny_pyIter_zip hz ?_
  have I2 : Inv X pins σ H1 { s1 with heap := h' } := I1.kept (t' := s1.toks) hk
  refine ⟨I2.nolimit, ?_⟩
  have eP2 : h'.get? P = some { cls := .none, data := .fields ps } := hk _ _ ePs
  have ccd : PySem.W.CodeHd h' c P := TB.code.keeps fun b u e => I2.bk b u e
  -- the def's table may grow by the generator's code
  have hcw : wpAny (model X.prog X.w) X.A (genexprCode X.env gpos (X.env.qual ++ "<genexpr>") scope) (fun _ s3 => ∃ h3 tk more, s3 = { s1 with heap := h3, toks := tk } ∧ Heap.ExtBut P h' h3 ∧ h'.objs.size ≤ h3.objs.size ∧
      h3.get? P = some { cls := .none, data := .fields (ps ++ more) } ∧ TriplesOk (ps ++ more).toList) X.xe { s1 with heap := h' } := by
    cases hf : codeAmong gpos ps.toList with
    | none =>
      refine wpAny_genexprCodeX hcode (ccd.code eP2 ht) (ccd.tab eP2) hf fun c' h3 tk hx hge hlt hco' _ htab' _ => ?_
      obtain ⟨_, _, _, _, _, _, _, _, _, _, _, _, _, _, _, _, _, _, _, trip, _⟩ := hco'
      exact ⟨h3, tk, _, rfl, hx, Nat.le_trans hge (Nat.le_of_lt hlt), htab'.2, trip⟩
    | some cv =>
      refine wpAny_genexprCode_hit hcode (ccd.code eP2 ht) hf ?_
      exact ⟨h', s1.toks, #[], rfl, Heap.ExtBut.refl _ _, Nat.le_refl _, by rw [Array.append_empty]; exact eP2, by rw [Array.append_empty]; exact ht⟩
  refine wpAny_mono hcw (fun code s3 hc3 => ?_) fun _ _ e => e
  obtain ⟨h3, tk, more, rfl, hx, hsz3, hP3, ht3⟩ := hc3
  obtain ⟨bm, ob, b1, b2, b3, b4, b5, b6, b7, b8⟩ := TB.bm
  have kp3 : ∀ b u, b ≠ P → h'.get? b = some u → h3.get? b = some u := fun b u hb e => hx b u hb e
  have neP : cStatics ≠ P := fun e => by
    obtain ⟨_, ⟨o', es, ep, ho, hd, _⟩, _⟩ := I1.nolimit
    rw [e, ePs] at ho
    cases ho
    cases hd
  have ltS : cStatics < s1.heap.objs.size := let ⟨_, hns, _⟩ := I1.nolimit; hns.lt
  refine wpAny_builtinsFor (m := X.mg) (by rw [I1.ok.glob]; exact (I2.mod.glob.keeps I2.bk).extBut hx TB.gP) b1 b2 (kp3 _ _ b4 (I2.bk _ _ b5)) b6 b7 b8 ?_
  generalize hN : s1.heap.objs.size = N at *
  have D : ZipSep2 (N + 4) (N + 2) (N + 3) N (N + 1) [N, a] [N + 1, b] := by
    have la2 : @LT.lt Nat _ a N := la
    have lb2 : @LT.lt Nat _ b N := lb
    exact ⟨nq (by omega), nq (by omega), nq (by omega), nq (by omega), List.mem_cons_self, nm (by omega) (by omega), nm (by omega) (by omega), nq (by omega), List.mem_cons_self, nm (by omega) (by omega), nm (by omega) (by omega), nm (by omega) (by omega), nm (by omega) (by omega)⟩
  have en : min its.toArray.size its2.toArray.size = min xs.length ys.length := by
    rw [List.size_toArray, List.size_toArray, ← rv.length, ← rv2.length, List.length_map, List.length_map]
  have W : ∀ A' : Around, A'.handled = none → WalksU X.prog X.w A' (N + 4) ((N + 4) :: (N + 2) :: (N + 3) :: ([N, a] ++ [N + 1, b])) [N + 4, N + 3, N, N + 1] (min xs.length ys.length) _ _ _ := fun A' hA => by
    rw [← en]
    exact (WalksT.zipD2 D (Draws.tuple (A := A'.in1) hA N a (Nat.ne_of_lt la) its.toArray) (Draws.tuple (A := A'.in1) hA (N + 1) b (Nat.ne_of_lt (Nat.lt_succ_of_lt lb)) its2.toArray)).toU
  refine ⟨N + 4, _, [N + 4, N + 3, N, N + 1], min xs.length ys.length, _, _, _, fun _ => true, fun i y => ∃ a b t, xs[i]? = some a ∧ ys[i]? = some b ∧ y = .str (f a b) t, rfl, W, ?_, ?_, ?_, I2.nolimit.extBut hx neP, ?_, ?_, ?_⟩
  · rintro i vals ⟨x1, x2, _, _, rfl⟩
    exact ⟨x1, x2, rfl⟩
  · have up : ∀ d : Nat, @Ne Addr (N + d) P := fun d => Nat.ne_of_gt (Nat.lt_of_lt_of_le lP (Nat.le_add_right N d))
    refine ⟨kp3 _ _ (up 4) hz, kp3 _ _ (up 2) hTI, ⟨_, _, kp3 _ _ (up 3) hTO⟩, ⟨h1.at fun o q => kp3 _ o (up 0) q, ?_⟩, ⟨h2.at fun o q => kp3 _ o (up 1) q, ?_⟩⟩
    · exact ⟨o1, kp3 _ _ aP (hk _ _ ho1), hc1, n1, hd1⟩
    · exact ⟨o2, kp3 _ _ bP (hk _ _ ho2), hc2, n2, hd2⟩
  · intro b' hb'
    have k5 : ∀ d : Nat, d < 5 → N + d < h3.objs.size := fun d hd => by omega
    have la2 : (a : Nat) < h3.objs.size := Nat.lt_of_lt_of_le la (by omega)
    have lb2 : (b : Nat) < h3.objs.size := Nat.lt_of_lt_of_le lb (by omega)
    have e : b' = N + 4 ∨ b' = N + 2 ∨ b' = N + 3 ∨ b' = N ∨ b' = a ∨ b' = N + 1 ∨ b' = b := by simpa using hb'
    rcases e with z | z | z | z | z | z | z
    · rw [z]; exact k5 4 (by decide)
    · rw [z]; exact k5 2 (by decide)
    · rw [z]; exact k5 3 (by decide)
    · rw [z]; exact k5 0 (by decide)
    · rw [z]; exact la2
    · rw [z]; exact k5 1 (by decide)
    · rw [z]; exact lb2
  · have up : ∀ d : Nat, @Ne Addr cStatics (N + d) := fun d => Nat.ne_of_lt (Nat.lt_of_lt_of_le ltS (Nat.le_add_right N d))
    intro z
    have e : cStatics = N + 4 ∨ cStatics = N + 3 ∨ cStatics = N ∨ cStatics = N + 1 := by simpa using z
    rcases e with z | z | z | z
    · exact up 4 z
    · exact up 3 z
    · exact up 0 z
    · exact up 1 z
  · intro href hh
    refine ⟨fun A' E' i va vb t m hA hD hU hPt hn hma hmb kt => ?_, fun A' E' i va vb t m hA hD hU hPt _ hn hma hmb kt => ?_⟩
    · simp only [List.forIn_nil]
      exact wpAny_pure ⟨rfl, GxR.keeps_refl _⟩
    · obtain ⟨x1, x2, e1, e2, e3⟩ := hPt
      have e4 : [va, vb] = [x1, x2] := congrArg Array.toList e3
      have e5 : va = x1 := (List.cons.inj e4).1
      have e6 : vb = x2 := (List.cons.inj (List.cons.inj e4).2).1
      subst e5 e6
      rw [List.getElem?_toArray] at e1 e2
      have l1 : i < (xs.map V.int).length := by
        rw [rv.length]
        exact (List.getElem?_eq_some_iff.mp e1).1
      have l2 : i < (ys.map V.int).length := by
        rw [rv2.length]
        exact (List.getElem?_eq_some_iff.mp e2).1
      obtain ⟨w1, hw1, rw1⟩ := rv.get (List.getElem?_eq_getElem l1)
      obtain ⟨w2, hw2, rw2⟩ := rv2.get (List.getElem?_eq_getElem l2)
      rw [e1] at hw1
      rw [e2] at hw2
      obtain rfl := Option.some.inj hw1
      obtain rfl := Option.some.inj hw2
      rw [List.getElem_map] at rw1 rw2
      rw [List.length_map] at l1 l2
      obtain ⟨k1, rfl⟩ := rw1
      obtain ⟨k2, rfl⟩ := rw2
      exact wpAny_mono (hel _ A' E' _ _ k1 k2 t m rfl hn hma hmb) (fun y t' hy => ⟨let ⟨tk, e⟩ := hy.1; ⟨_, _, tk, List.getElem?_eq_getElem l1, List.getElem?_eq_getElem l2, e⟩, hy.2⟩) fun _ _ e => e
  · intro g h5 tk5 gs hgb hag hsz5 hk5 W5 hat
    refine hQ xs ys H1 g _ hR ⟨_, _, _, _, W5, hat, fun b' hb' => ?_, List.mem_cons_self, fun i t ht9 => ?_, fun s' hm' => ?_⟩
    · show b' < h5.objs.size
      rcases List.mem_cons.mp hb' with z | z
      · rw [z, hsz5]; exact Nat.lt_succ_self g
      · rcases List.mem_cons.mp z with z | z
        · rw [z, hsz5]; exact Nat.lt_succ_of_lt hag
        · rw [hsz5]; exact Nat.lt_succ_of_lt (Nat.lt_trans (List.mem_range.mp z) hag)
    · exact Heap.IsGen.typeIs ht9.1
    · have nwr : ∀ b u, s1.heap.get? b = some u → b ∉ h3.objs.size :: [N + 4, N + 3, N, N + 1] := fun b u e hb => by
        have lb : @LT.lt Nat _ b N := hN ▸ Heap.lt_size e
        have e' : b = h3.objs.size ∨ b = N + 4 ∨ b = N + 3 ∨ b = N ∨ b = N + 1 := by simpa using hb
        have up : ∀ d : Nat, @LT.lt Nat _ b (N + d) := fun d => Nat.lt_of_lt_of_le lb (Nat.le_add_right N d)
        rcases e' with z | z | z | z | z
        · have : @LT.lt Nat _ b h3.objs.size := Nat.lt_of_lt_of_le lb (by omega)
          exact Nat.ne_of_lt this z
        · exact Nat.ne_of_lt (up 4) z
        · exact Nat.ne_of_lt (up 3) z
        · exact Nat.ne_of_lt (up 0) z
        · exact Nat.ne_of_lt (up 1) z
      have J := GxR.inv_tab (more := more) (h' := s'.heap) (g' := s'.gens) (d' := s'.drawn) (t' := s'.toks) I1 hP (fun b u hb e => hm'.heap b u (nwr b u e) (hk5 b u (kp3 b u hb (hk b u e))))
        (hm'.heap P _ (nwr P _ ePs) (hk5 P _ hP3)) (AllBare.movedS (I1.bare.push hgb) hm')
      rw [GxR.sh_eta s1 s' hm'.os] at J
      exact ⟨upd H1 P (.tbl (ps ++ more)), ⟨⟨ps ++ more, upd_same, ht3⟩, fun b hb => upd_ne hb⟩, J⟩
/-- what the generator yields, joined -/
def pairsL (f : Int → Int → Str) (xs ys : List Int) : List Str := (List.range (min xs.length ys.length)).map fun i => f (xs.getD i 0) (ys.getD i 0)
def tJoinZ (K : PySem.W.Frag) (P : Addr) (f : Int → Int → Str) (to : TE) (ta : TA) : TE := fun σ H Q => to σ H fun v H1 => ∃ sep : Str, v = .str sep ∧ ta σ H1 fun vs H2 => ∃ (a b : Addr) (xs ys : List Int), vs = [.ref a, .ref b] ∧ SqT K H2 a (xs.map V.int) ∧ SqT K H2 b (ys.map V.int) ∧ GxR.TabG H2 P ∧
  (JoinOk sep (pairsL f xs ys) = true ∧ min xs.length ys.length ≤ sizeLine ∧ ∀ H3, GxR.Tabbed P H2 H3 → Q (.str (Txt.join sep (pairsL f xs ys))) H3)
theorem pe_joinZ {c P : Addr} {o elt e e2 : Expr} {xa xb : Str} {pa pb pt pz qz apos cpos gpos : Pos} {kt : Nat} {scope : Scope} {k : Nat} {to : TE} {ta : TA} {f : Int → Int → Str}
    (hr : Room k X.A) (TB : GxR.TabB X.base X.mg c P) (hcode : X.env.code = .ref c) (Sa : GxR.GenS X.env scope xa) (Sb : GxR.GenS X.env scope xb) (hab : xa ≠ xb) (hg : Gl X "zip") (hm : X.mg "zip" = none) (ho : PE X o to) (ha : PA X [e, e2] ta) (hel : PairE X.prog X.w scope xa xb elt f)
    (hs : ∀ v, genFold (.Call (.Name "zip" pz) [e, e2] [] qz) X.env v = pure v) (hs1 : starEach [e, e2] X.env = (false, eval e X.env) :: starEach [e2] X.env := by rfl) (hpl : (backTo qz (starEach [e2] X.env)).any (·.1) = false := by rfl)
    (hbase : attributeBase o "join" X.env (eval o X.env) = eval o X.env := by rfl)
    (hfew : ((backTo cpos (starEach [.GeneratorExp elt [⟨.Tuple [.Name xa pa, .Name xb pb] kt pt, .Call (.Name "zip" pz) [e, e2] [] qz, [], 0⟩] scope gpos] X.env)).all (fun x => !x.1) && (backToKw cpos (keywordEach [] X.env)).all (fun x => x.1.isSome)
      && decide (([.GeneratorExp elt [⟨.Tuple [.Name xa pa, .Name xb pb] kt pt, .Call (.Name "zip" pz) [e, e2] [] qz, [], 0⟩] scope gpos] : List Expr).length + ([] : List Keyword).length + (if ([] : List Keyword).isEmpty then 0 else 1) < 30)) = true := by rfl)
    (hline : (apos.endLine == cpos.line) = true := by rfl)
    (he : starEach [.GeneratorExp elt [⟨.Tuple [.Name xa pa, .Name xb pb] kt pt, .Call (.Name "zip" pz) [e, e2] [] qz, [], 0⟩] scope gpos] X.env = (false, eval (.GeneratorExp elt [⟨.Tuple [.Name xa pa, .Name xb pb] kt pt, .Call (.Name "zip" pz) [e, e2] [] qz, [], 0⟩] scope gpos) X.env) :: starEach [] X.env := by rfl)
    (hplain : (backTo cpos (starEach [] X.env)).any (·.1) = false := by rfl) :
    PE X (.Call (.Attribute o "join" apos) [.GeneratorExp elt [⟨.Tuple [.Name xa pa, .Name xb pb] kt pt, .Call (.Name "zip" pz) [e, e2] [] qz, [], 0⟩] scope gpos] [] cpos) (tJoinZ X.K P f to ta) := by
  refine ⟨fun pins s σ H Q I h => ?_⟩
  refine wpAny_Call_method_late hbase hfew hline rfl (thn (ho.run pins s σ H _ I h) fun v s1 ⟨x', H1, I1, r1, sep, ex, q1⟩ => ?_)
  subst ex
  obtain ⟨tk, rfl⟩ := (show ∃ t, v = Value.str sep t from r1)
  refine ⟨"str", _, PySem.F.plainAttrs_str, PySem.F.slot_str_join, PySem.F.type_str_join, typeIs_str _ _ _, (fun _ e => nomatch e), ?_⟩
  rw [he]
  refine Calls.callWith_builtin (by show (false || (backTo cpos (starEach [] X.env)).any (·.1)) = false; rw [hplain] <;> rfl) (Calls.evalArgs_plain ?_)
  show wpAny _ _ (spliced ((false, eval (.GeneratorExp elt [⟨.Tuple [.Name xa pa, .Name xb pb] kt pt, .Call (.Name "zip" pz) [e, e2] [] qz, [], 0⟩] scope gpos) X.env) :: backTo cpos (starEach [] X.env))) _ _ s1
  refine Calls.spliced_cons (gen_zip (R := fun xs ys H2 => JoinOk sep (pairsL f xs ys) = true ∧ min xs.length ys.length ≤ sizeLine ∧ ∀ H3, GxR.Tabbed P H2 H3 → Q (.str (Txt.join sep (pairsL f xs ys))) H3) hr TB hcode Sa Sb hab hg hm ha hel hs hs1 hpl I1 q1 fun xs ys H2 g s5 hR hG => ?_)
  refine Calls.spliced_nil ?_
  obtain ⟨fp, wr, G, St, W, hst, hfp, hgm, hT, hinv⟩ := hG
  obtain ⟨jok, jl, jq⟩ := hR
  have ln : (passing (fun _ => true) (min xs.length ys.length) 0).length = min xs.length ys.length := by rw [GxR.passing_true, List.length_range]
  refine PySem.SC.joinGen (x := sep) W.of_in1.of_in1 (fun i s st => hT i s st) hst hfp hgm (fun i v hv => ?_) (fun s' l hm' hio => ?_) (by rw [ln]; exact jl)
  · obtain ⟨_, _, a, b, t, _, _, e⟩ := hv
    exact ⟨_, _, e⟩
  · have hl0 : l.length = min xs.length ys.length := by
      have e0 := hio.1
      rw [List.size_toArray, ln] at e0
      unfold strValues at e0
      rw [List.length_map] at e0
      exact e0
    have e : l.map (·.1) = pairsL f xs ys := by
      refine List.ext_getElem? fun j => ?_
      unfold pairsL
      rw [List.getElem?_map, List.getElem?_map]
      cases hj : l[j]? with
      | none =>
        have h1 := List.getElem?_eq_none_iff.mp hj
        rw [List.getElem?_eq_none (by rw [List.length_range]; omega)]; rfl
      | some p =>
        have hjl : j < min xs.length ys.length := by rw [← hl0]; exact (List.getElem?_eq_some_iff.mp hj).1
        have h2 : (strValues l).toArray[j]? = some (.str p.1 p.2) := by
          show (strValues l).toArray[j]? = _
          rw [List.getElem?_toArray]
          unfold strValues
          rw [List.getElem?_map, hj]; rfl
        obtain ⟨i, hi, a, b, t, ha1, hb1, ev⟩ := hio.2 j _ h2
        rw [GxR.passing_true, List.getElem?_range hjl] at hi
        obtain rfl := Option.some.inj hi
        have e1 : p.1 = f a b := by
          injection ev
        rw [List.getElem?_range hjl]
        show some p.1 = some (f (xs.getD j 0) (ys.getD j 0))
        rw [e1, List.getD_eq_getElem?_getD, List.getD_eq_getElem?_getD, ha1, hb1]; rfl
    obtain ⟨H3, ht, J⟩ := hinv s' hm'
    rw [e]
    exact ⟨jok, fun t' k' => ⟨.str _, H3, J.tok k', ⟨t', rfl⟩, jq H3 ht⟩⟩
end
end Up

set_option Elab.async false
set_option linter.all false
set_option maxRecDepth 100000
set_option maxHeartbeats 2000000
/-! texts of turns -/
namespace Up
open PySem PySem.Spec PyProof.Rows L2
theorem op_mulS {X : Cx} : OpR X (binaryOp .Mult) (fun x y H Q => ∃ (a : Str) (n : Int), x = .str a ∧ y = .int n ∧ MulOk a n ∧ Q (.str (Txt.mul a n)) H) := by
  intro pins s σ H x y v u Q I rx ry h
  obtain ⟨a, n, rfl, rfl, ok, q⟩ := h
  obtain ⟨t, rfl⟩ := rx
  obtain ⟨t', rfl⟩ := ry
  exact SB.mul ok fun t2 k => ⟨.str (Txt.mul a n), H, I.tok _, ⟨_, rfl⟩, q⟩
def sgB (b : Bool) : Nat := if b = true then 117 else 100
def textB (bs : List Bool) : Str := ⟨(bs.map sgB).toArray⟩
def oneB (b : Bool) : Str := if b = true then "u" else "d"
theorem one_cps (b : Bool) : (oneB b).cps.toList = [sgB b] := by
  cases b <;> rfl
theorem textB_inj {a b : List Bool} (h : textB a = textB b) : a = b := by
  have e : a.map sgB = b.map sgB := by
    have := congrArg (fun s : Str => s.cps.toList) h
    simpa [textB] using this
  induction a generalizing b with
  | nil => cases b with
    | nil => rfl
    | cons y ys => cases e
  | cons x xs ih => cases b with
    | nil => cases e
    | cons y ys =>
      rw [List.map_cons, List.map_cons] at e
      obtain ⟨e1, e2⟩ := List.cons.inj e
      have : x = y := by
        revert e1
        cases x <;> cases y <;> decide
      rw [this, ih (b := ys) (by unfold textB; rw [e2]) e2]
theorem fold_cps : ∀ (ps : List Str) (acc : Array Nat), (ps.foldl (fun a p => a ++ ("" : Str).cps ++ p.cps) acc).toList = acc.toList ++ ps.flatMap fun p => p.cps.toList
  | [], acc => by simp
  | p :: ps, acc => by
    rw [List.foldl_cons, fold_cps ps]
    have e : ("" : Str).cps = #[] := rfl
    rw [e, List.flatMap_cons]
    simp
theorem join_cps (ps : List Str) : (Txt.join "" ps).cps.toList = ps.flatMap fun p => p.cps.toList := by
  show ((ps.drop 1).foldl (fun a p => a ++ ("" : Str).cps ++ p.cps) (ps.headD Str.empty).cps).toList = _
  rw [fold_cps]
  cases ps with
  | nil => rfl
  | cons p ps => rfl
theorem join_signs (bs : List Bool) : Txt.join "" (bs.map oneB) = textB bs := by
  have e := join_cps (bs.map oneB)
  have e2 : (bs.map oneB).flatMap (fun p => p.cps.toList) = bs.map sgB := by
    induction bs with
    | nil => rfl
    | cons b bs ih => rw [List.map_cons, List.flatMap_cons, one_cps, ih (join_cps _)]; rfl
  rw [e2] at e
  unfold textB
  rw [← e]
theorem len_signs : ∀ (bs : List Bool) (n : Nat), (bs.map oneB).foldl (fun n p => n + p.length + ("" : Str).length) n = n + bs.length
  | [], n => rfl
  | b :: bs, n => by
    rw [List.map_cons, List.foldl_cons, len_signs bs]
    have e : (oneB b).length = 1 := by cases b <;> rfl
    have e2 : ("" : Str).length = 0 := rfl
    rw [e, e2, List.length_cons]; omega
theorem joinOk_signs {bs : List Bool} (h : bs.length ≤ 1000) : JoinOk "" (bs.map oneB) = true := by
  unfold JoinOk
  rw [List.foldl_toArray, len_signs]
  have : Builtin.Str.tooLong (0 + bs.length) = false := by
    unfold Builtin.Str.tooLong
    exact decide_eq_false (by rw [sizeLine_eq]; omega)
  rw [this]; rfl
def altB (b : Bool) : Nat → List Bool
  | 0 => []
  | n + 1 => b :: altB (!b) n
theorem alt_not (b : Bool) : ∀ n, altB (!b) n = (altB b n).map not
  | 0 => rfl
  | n + 1 => by
    show (!b) :: altB (!(!b)) n = (!b) :: (altB (!b) n).map not
    rw [alt_not (!b) n]
def tb (l : List Int) : List Bool := (List.range (l.length - 1)).map fun i => decide (l.getD i 0 < l.getD (i + 1) 0)
theorem tb_len (l : List Int) : (tb l).length = l.length - 1 := by unfold tb; rw [List.length_map, List.length_range]
theorem pairs_tb (l : List Int) : pairsL (fun i j => if i < j then ("u" : Str) else "d") l (l.drop 1) = (tb l).map oneB := by
  unfold pairsL tb
  have e : min l.length (l.drop 1).length = l.length - 1 := by rw [List.length_drop]; omega
  rw [e, List.map_map]
  refine List.map_congr_left fun i hi => ?_
  have hi := List.mem_range.mp hi
  show (if l.getD i 0 < (l.drop 1).getD i 0 then ("u" : Str) else "d") = oneB (decide (l.getD i 0 < l.getD (i + 1) 0))
  have e2 : (l.drop 1).getD i 0 = l.getD (i + 1) 0 := by
    rw [List.getD_eq_getElem?_getD, List.getD_eq_getElem?_getD, List.getElem?_drop, Nat.add_comm]
  rw [e2]
  unfold oneB
  by_cases c : l.getD i 0 < l.getD (i + 1) 0
  · rw [if_pos c, if_pos (decide_eq_true c)]
  · rw [if_neg c, if_neg (by rw [decide_eq_false c]; exact Bool.false_ne_true)]
def both (b : Bool) : Str := if b = true then "ud" else "du"
theorem both_cut {b : Bool} {n : Nat} (h1 : 1 ≤ n) (h : n ≤ 40) : cutS (Txt.mul (both b) (n : Int)) none (some ((n : Int) - 1)) = textB (altB b (n - 1)) := by
  have key : ([true, false].all fun b => (List.range 41).all fun n => decide (n = 0) || decide (cutS (Txt.mul (both b) (n : Int)) none (some ((n : Int) - 1)) = textB (altB b (n - 1)))) = true := by decide +kernel
  have z := List.all_eq_true.mp (List.all_eq_true.mp key b (by cases b <;> simp)) n (List.mem_range.mpr (by omega))
  rw [Bool.or_eq_true] at z
  cases z with
  | inl e => have := of_decide_eq_true e; omega
  | inr e => exact of_decide_eq_true e
theorem both_len {b : Bool} {n : Nat} (h : n ≤ 40) : (Txt.mul (both b) (n : Int)).length ≤ sizeLine ∧ MulOk (both b) (n : Int) := by
  have key : ([true, false].all fun b => (List.range 41).all fun n => decide ((Txt.mul (both b) (n : Int)).length ≤ 1000)) = true := by decide +kernel
  have z := of_decide_eq_true (List.all_eq_true.mp (List.all_eq_true.mp key b (by cases b <;> simp)) n (List.mem_range.mpr (by omega)))
  refine ⟨Nat.le_trans z (by decide), ?_, fun h1 _ => ?_, fun _ _ => ?_⟩
  · rw [decide_eq_false (by omega), decide_eq_false (by omega)]; rfl
  · have e : (both b).length = 2 := by cases b <;> rfl
    rw [e]
    have : (2 ^ 63 - 1 : Int) / (n : Int) ≥ (2 ^ 63 - 1) / 40 := by
      refine Int.le_ediv_of_mul_le (by omega) ?_
      omega
    omega
  · have e : (both b).length = 2 := by cases b <;> rfl
    rw [e]
    unfold Builtin.Str.tooLong
    exact decide_eq_false (by rw [sizeLine_eq]; omega)
/-- a comprehension over the signs of a text -/
theorem lc_text {z : Str} {g : L2.TG} {tt : TT} {te : TE} {own : List Nat} {σ : L2.St} {Ha : Hp} {D : Addr} {Qd : Hp → Prop} (G : Nat → Hp → Prop) (first : G 0 (upd Ha D (.lst [])))
    (turn : ∀ (j : Nat) (c : Nat) (Hb : Hp), z.cps[j]? = some c → G j Hb →
      g (.str ⟨#[c]⟩) (wipe σ own) Hb fun τ Hc =>
        wipe τ own = wipe σ own ∧
        tt τ Hc fun yes Hd =>
          if yes = true then
            te τ Hd fun y He => ∃ acc, He D = some (.lst acc) ∧ acc.length < sizeLine ∧
              G (j + 1) (upd He D (.lst (acc ++ [y])))
          else G (j + 1) Hd)
    (last : ∀ Hz, G z.cps.size Hz → Qd Hz) :
    ∃ W : Nat → Nat → Hp → Prop, (∃ n, W 0 n (upd Ha D (.lst []))) ∧
      ∀ j n Hb, W j n Hb →
        ((Its z).stop j Hb ∧ Qd Hb) ∨
        ((Its z).go j Hb ∧ ∃ Nx : Hp → Prop,
          (∀ Hk, Nx Hk → ∃ n', n' < n ∧ W (j + 1) n' Hk) ∧
          ∀ v Hk, (Its z).yld j Hb v Hk →
            g v (wipe σ own) Hk fun τ Hc =>
              wipe τ own = wipe σ own ∧
              tt τ Hc fun yes Hd =>
                if yes = true then
                  te τ Hd fun y He => ∃ acc, He D = some (.lst acc) ∧ acc.length < sizeLine ∧
                    Nx (upd He D (.lst (acc ++ [y])))
                else Nx Hd) := by
  refine ⟨fun j n Hb => n = z.cps.size - j ∧ j ≤ z.cps.size ∧ G j Hb, ⟨z.cps.size, by simp, Nat.zero_le _, first⟩, ?_⟩
  rintro j n Hb ⟨rfl, hj, hG⟩
  rcases Nat.lt_or_ge j z.cps.size with lt | ge
  · refine .inr ⟨lt, G (j + 1), fun Hk k => ⟨z.cps.size - (j + 1), by omega, rfl, lt, k⟩, fun v Hk y => ?_⟩
    obtain ⟨rfl, c, hc, rfl⟩ := y
    exact turn j c _ hc hG
  · have e : j = z.cps.size := by omega
    rw [e] at hG
    exact .inl ⟨ge, last _ hG⟩
end Up

set_option Elab.async false
set_option linter.all false
set_option maxRecDepth 100000
set_option maxHeartbeats 4000000
/-! orders as lists, and what the program makes of them -/
namespace Up
open PySem PySem.Spec PyProof.Rows L2
def rng (n : Nat) : List Int := (List.range n).map fun (j : Nat) => 1 + (j : Int)
/-- an order: the numbers from 1 to how many they are, each once -/
structure Ord (l : List Int) : Prop where
  pos : 1 ≤ l.length
  few : l.length ≤ 40
  perm : l.Perm (rng l.length)
/-- a tuple of ints without attributes -/
def Zt (H : Hp) (t : Addr) (l : List Int) : Prop := ∃ ob : Obj, ob.dict = none ∧ H t = some (.frz ob (.tup (l.map V.int)))
theorem tyx_sqt {K : PySem.W.Frag} {H : Hp} {a : Addr} {xs : List V} (h : SqT K H a xs) : TyX K H (.ref a) (.type "tuple") := by
  rcases h with (h | ⟨o, h⟩) | ⟨o, its, n, h, c, _⟩
  · exact .base (.tup h)
  · exact .fTuple h
  · exact .kTuple h c
theorem kit_tt {K : PySem.W.Frag} : PySem.W.kitOne K (.type "tuple") (.type "tuple") = some true := kit_ty (by decide +kernel)
theorem small_n {n : Nat} (h : n ≤ 1000) : n < sizeLine := Nat.lt_of_le_of_lt h (by decide)
theorem get_ints {ns : List Int} {i : Nat} {x : V} (h : (ns.map V.int)[i]? = some x) : ∃ z, ns[i]? = some z ∧ x = .int z := by
  rw [List.getElem?_map] at h
  cases e : ns[i]? with
  | none => rw [e] at h; cases h
  | some z => rw [e] at h; exact ⟨z, rfl, (Option.some.inj h).symm⟩
theorem rng_len (n : Nat) : (rng n).length = n := by unfold rng; rw [List.length_map, List.length_range]
theorem rng_lt (n : Nat) : (rng n).Pairwise (· < ·) := by
  unfold rng
  rw [List.pairwise_map]
  refine List.Pairwise.imp ?_ List.pairwise_lt_range
  intro a b h
  show 1 + (a : Int) < 1 + (b : Int)
  omega
theorem rng_le (n : Nat) : (rng n).Pairwise (· ≤ ·) := (rng_lt n).imp fun h => by omega
theorem rng_nodup (n : Nat) : (rng n).Nodup := (rng_lt n).imp fun h e => by omega
theorem mem_rng {n : Nat} {x : Int} : x ∈ rng n ↔ 1 ≤ x ∧ x ≤ n := by
  unfold rng
  rw [List.mem_map]
  constructor
  · rintro ⟨j, hj, rfl⟩
    have := List.mem_range.mp hj
    omega
  · rintro ⟨h1, h2⟩
    exact ⟨(x - 1).toNat, List.mem_range.mpr (by omega), by omega⟩
theorem rng_at {n i : Nat} (h : i < n) : (rng n)[i]? = some (1 + (i : Int)) := by
  unfold rng
  rw [List.getElem?_map, List.getElem?_range h]; rfl
theorem Ord.nodup {l : List Int} (o : Ord l) : l.Nodup := (o.perm.symm).nodup (rng_nodup _)
theorem Ord.mem {l : List Int} (o : Ord l) {x : Int} : x ∈ l ↔ 1 ≤ x ∧ x ≤ l.length := (o.perm.mem_iff).trans mem_rng
theorem sorted_eq {l ms : List Int} (o : Ord l) (p : ms.Perm l) (w : ms.Pairwise (· ≤ ·)) : ms = rng l.length :=
  (p.trans o.perm).eq_of_pairwise (fun a b _ _ h1 h2 => by omega) w (rng_le _)
theorem rg_eq (n : Nat) : rgV 1 ((n : Int) + 1) = (rng n).map V.int := by
  unfold rgV rng
  rw [List.map_map, show ((n : Int) + 1 - 1).toNat = n by omega]; rfl
theorem all_id : ∀ n : Nat, (List.replicate n true).all id = true
  | 0 => rfl
  | n + 1 => all_id n
theorem Zt.sq {K : PySem.W.Frag} {H : Hp} {t : Addr} {l : List Int} (h : Zt H t l) : SqT K H t (l.map V.int) := by
  obtain ⟨ob, _, e⟩ := h
  exact .inl (.inr ⟨ob, e⟩)
def overL (l : List Int) : List Int := l.map fun x => (l.length : Int) + 1 - x
theorem range_get (l : List Int) (f : Int → Int) : (List.range l.length).map (fun i => V.int (f (l.getD i 0))) = (l.map f).map V.int := by
  refine List.ext_getElem? fun i => ?_
  rw [List.getElem?_map, List.getElem?_map, List.getElem?_map]
  by_cases h : i < l.length
  · rw [List.getElem?_range h, List.getElem?_eq_getElem h]
    show some (V.int (f (l.getD i 0))) = some (V.int (f l[i]))
    rw [List.getD_eq_getElem?_getD, List.getElem?_eq_getElem h]; rfl
  · rw [List.getElem?_eq_none (by rw [List.length_range]; omega), List.getElem?_eq_none (by omega)]; rfl
def idxN (x : Int) : List Int → Nat
  | [] => 0
  | y :: ys => if y = x then 0 else idxN x ys + 1
theorem idxN_at {x : Int} : ∀ {s : List Int}, x ∈ s → s[idxN x s]? = some x ∧ ∀ m, m < idxN x s → s[m]? ≠ some x
  | [], h => by cases h
  | y :: ys, h => by
    unfold idxN
    by_cases e : y = x
    · rw [if_pos e]
      exact ⟨by rw [e]; rfl, fun m hm => absurd hm (Nat.not_lt_zero _)⟩
    · rw [if_neg e]
      have h' : x ∈ ys := by
        cases List.mem_cons.mp h with
        | inl z => exact absurd z.symm e
        | inr z => exact z
      obtain ⟨i1, i2⟩ := idxN_at h'
      refine ⟨by rw [List.getElem?_cons_succ]; exact i1, fun m hm => ?_⟩
      cases m with
      | zero => rw [List.getElem?_cons_zero]; exact fun z => e (Option.some.inj z)
      | succ m => rw [List.getElem?_cons_succ]; exact i2 m (by omega)
def conL (l : List Int) : List Int := (rng l.length).map fun x => ((idxN x l : Nat) : Int) + 1
theorem Zt.ext {H H' : Hp} {t : Addr} {l : List Int} (h : Zt H t l) (e : LamX.ExtN H H') : Zt H' t l := by
  obtain ⟨ob, d, z⟩ := h
  exact ⟨ob, d, e _ _ z fun _ q => by cases q⟩
theorem range_rng (n : Nat) (f : Int → Int) : (List.range n).map (fun (i : Nat) => V.int (f (1 + (i : Int)))) = ((rng n).map f).map V.int := by
  unfold rng
  rw [List.map_map, List.map_map]; rfl
/-- the order of a row whose rising form is ms -/
def ordL (ms l : List Int) : List Int := l.map fun x => ((idxN x ms : Nat) : Int) + 1
def woL (b : Int) (l : List Int) : List Int := (l.filter fun x => x != b).map fun x => if b < x then x - 1 else x
theorem short_one : Short 1 := by
  refine ⟨by decide +kernel, by decide +kernel, by decide +kernel⟩
theorem short_len {n : Nat} (h : n ≤ 40) : ((n : Int).natAbs.log2 < 1920 ∧ (Str.empty ++ ("the number is not from " : Str) ++ (toString (1 : Int) : Str) ++ (" to " : Str) ++ (toString (n : Int) : Str)).length ≤ sizeLine) := by
  have key : ((List.range 41).all fun n => decide ((n : Int).natAbs.log2 < 1920) && decide ((Str.empty ++ ("the number is not from " : Str) ++ (toString (1 : Int) : Str) ++ (" to " : Str) ++ (toString (n : Int) : Str)).length ≤ sizeLine)) = true := by decide +kernel
  have z := List.all_eq_true.mp key n (List.mem_range.mpr (by omega))
  rw [Bool.and_eq_true] at z
  exact ⟨of_decide_eq_true z.1, of_decide_eq_true z.2⟩
theorem range_filter (l : List Int) (pz : Int → Bool) (f : Int → Int) : ((List.range l.length).filter fun i => pz (l.getD i 0)).map (fun i => V.int (f (l.getD i 0))) = ((l.filter pz).map f).map V.int := by
  have e : l = (List.range l.length).map fun i => l.getD i 0 := by
    refine List.ext_getElem? fun i => ?_
    rw [List.getElem?_map]
    by_cases h : i < l.length
    · rw [List.getElem?_range h, List.getElem?_eq_getElem h]
      show some l[i] = some (l.getD i 0)
      rw [List.getD_eq_getElem?_getD, List.getElem?_eq_getElem h]; rfl
    · rw [List.getElem?_eq_none (by omega), List.getElem?_eq_none (by rw [List.length_range]; omega)]; rfl
  conv => rhs; rw [e, List.filter_map, List.map_map, List.map_map]
  rfl
theorem cut_nat {xs : List V} {k : Nat} (h : k ≤ xs.length) : cutV xs (some (k : Int)) none = xs.drop k := by
  unfold cutV
  rw [HT.sIx_none, HT.sIx_nat, Nat.min_eq_left h, List.take_of_length_le (by rw [List.length_drop]; exact Nat.le_refl _)]
theorem drop_sq {K : PySem.W.Frag} {H : Hp} {Q : VK} {t : Addr} {l : List Int} {k : Nat} (hS : SqT K H t (l.map V.int)) (hk : 0 < k) (hl : k ≤ l.length) (q : ∀ p, H p = none → Q (.ref p) (upd H p (.tup ((l.drop k).map V.int)))) : rSlA K (.ref t) (some (k : Int)) none H Q := by
  refine ⟨t, _, rfl, hS, fun c => ?_, fun c p np => ?_⟩
  · have z := c.1
    rw [HT.sIx_nat, List.length_map] at z
    omega
  · rw [cut_nat (by rw [List.length_map]; exact hl), ← List.map_drop]
    exact q p np
def ins (l : List Int) (k : Nat) (x : Int) : List Int := l.take k ++ [x] ++ l.drop k
theorem ins_map (l : List Int) (k : Nat) (x : Int) : some (HO.lst ((l.map V.int).take k ++ [V.int x] ++ (l.map V.int).drop k)) = some (HO.lst ((ins l k x).map V.int)) := by
  unfold ins
  rw [List.map_append, List.map_append, List.map_take, List.map_drop]; rfl
theorem ins_len (l : List Int) (k : Nat) (x : Int) : (ins l k x).length = l.length + 1 := by
  unfold ins
  rw [List.length_append, List.length_append, List.length_take, List.length_drop]
  show min k l.length + 1 + (l.length - k) = _
  omega
theorem ins_perm {l : List Int} {k i : Nat} (p : l.Perm (rng i)) : (ins l k (1 + (i : Int))).Perm (rng (i + 1)) := by
  unfold ins
  have e : rng (i + 1) = rng i ++ [1 + (i : Int)] := by
    unfold rng
    rw [List.range_succ, List.map_append]; rfl
  rw [e, List.append_assoc]
  refine (List.perm_append_comm_assoc ..).trans ?_
  rw [List.take_append_drop]
  exact (List.perm_append_comm).trans (p.append_right _)
theorem getI {l : List Int} {j : Nat} (h : j < l.length) : (l.map V.int)[j]? = some (.int (l.getD j 0)) := by
  rw [List.getElem?_map, List.getElem?_eq_getElem h, List.getD_eq_getElem?_getD, List.getElem?_eq_getElem h]; rfl
theorem ixN_of {n i : Nat} (h : i < n) : ixN n (i : Int) = some i := by
  unfold ixN
  rw [if_pos (by omega), if_pos (by omega), Int.toNat_natCast]
def swp (l : List Int) (i : Nat) : List Int := (l.set i (l.getD (i + 1) 0)).set (i + 1) (l.getD i 0)
theorem swp_perm : ∀ (l : List Int) (i : Nat), i + 1 < l.length → (swp l i).Perm l
  | [], i, h => by cases h
  | [a], i, h => by simp at h
  | a :: b :: r, 0, h => List.Perm.swap a b r
  | a :: b :: r, i + 1, h => by
    have z := swp_perm (b :: r) i (by simpa using h)
    exact z.cons a
theorem swp_len (l : List Int) (i : Nat) : (swp l i).length = l.length := by unfold swp; rw [List.length_set, List.length_set]
theorem getD_of {l : List Int} {i : Nat} (h : i < l.length) : l[i]? = some (l.getD i 0) := by
  rw [List.getElem?_eq_getElem h, List.getD_eq_getElem?_getD, List.getElem?_eq_getElem h]; rfl
theorem overL_len (l : List Int) : (overL l).length = l.length := by unfold overL; rw [List.length_map]
theorem overL_at {l : List Int} {i : Nat} (h : i < l.length) : (overL l).getD i 0 = (l.length : Int) + 1 - l.getD i 0 := by
  have e : (overL l)[i]? = some ((l.length : Int) + 1 - l.getD i 0) := by
    unfold overL
    rw [List.getElem?_map, getD_of h]; rfl
  rw [List.getD_eq_getElem?_getD, e]; rfl
theorem over_over (l : List Int) : overL (overL l) = l := by
  have e : overL (overL l) = l.map fun x => (l.length : Int) + 1 - ((l.length : Int) + 1 - x) := by
    unfold overL
    rw [List.map_map, List.length_map]; rfl
  rw [e]
  have e2 : (fun x : Int => (l.length : Int) + 1 - ((l.length : Int) + 1 - x)) = id := by
    funext x
    show (l.length : Int) + 1 - ((l.length : Int) + 1 - x) = x
    omega
  rw [e2, List.map_id]
theorem rng_over (n : Nat) : ((rng n).map fun x => (n : Int) + 1 - x).Perm (rng n) := by
  refine (List.perm_ext_iff_of_nodup ?_ (rng_nodup n)).mpr fun x => ?_
  · unfold List.Nodup
    rw [List.pairwise_map]
    exact (rng_lt n).imp fun h e => by omega
  · rw [List.mem_map, mem_rng]
    constructor
    · rintro ⟨y, hy, rfl⟩
      have := mem_rng.mp hy
      omega
    · rintro ⟨h1, h2⟩
      exact ⟨(n : Int) + 1 - x, mem_rng.mpr (by omega), by omega⟩
theorem over_ord {l : List Int} (o : Ord l) : Ord (overL l) := by
  refine ⟨by rw [overL_len]; exact o.pos, by rw [overL_len]; exact o.few, ?_⟩
  rw [overL_len]
  unfold overL
  exact (o.perm.map _).trans (rng_over _)
theorem rev_ord {l : List Int} (o : Ord l) : Ord l.reverse := by
  refine ⟨by rw [List.length_reverse]; exact o.pos, by rw [List.length_reverse]; exact o.few, ?_⟩
  rw [List.length_reverse]
  exact (List.reverse_perm l).trans o.perm
theorem idxN_is {l : List Int} {x : Int} {i : Nat} (nd : l.Nodup) (h : l[i]? = some x) : idxN x l = i := by
  obtain ⟨i1, _⟩ := idxN_at (List.mem_of_getElem? h)
  have lt := (List.getElem?_eq_some_iff.mp i1).1
  exact (List.getElem?_inj lt nd).mp (i1.trans h.symm)
theorem conL_len (l : List Int) : (conL l).length = l.length := by unfold conL; rw [List.length_map, rng_len]
theorem conL_at {l : List Int} {i : Nat} (h : i < l.length) : (conL l)[i]? = some (((idxN (1 + (i : Int)) l : Nat) : Int) + 1) := by
  unfold conL
  rw [List.getElem?_map, rng_at h]; rfl
theorem con_ord {l : List Int} (o : Ord l) : Ord (conL l) := by
  refine ⟨by rw [conL_len]; exact o.pos, by rw [conL_len]; exact o.few, ?_⟩
  rw [conL_len]
  have e : (l.map fun x => ((idxN x l : Nat) : Int) + 1) = rng l.length := by
    refine List.ext_getElem? fun i => ?_
    rw [List.getElem?_map]
    by_cases h : i < l.length
    · rw [rng_at h, getD_of h]
      show some (((idxN (l.getD i 0) l : Nat) : Int) + 1) = _
      rw [idxN_is o.nodup (getD_of h)]
      exact congrArg some (by omega)
    · rw [List.getElem?_eq_none (by omega), List.getElem?_eq_none (by rw [rng_len]; omega)]; rfl
  have z := (o.perm.map fun x => ((idxN x l : Nat) : Int) + 1).symm
  rw [e] at z
  exact z
theorem con_con {l : List Int} (o : Ord l) : conL (conL l) = l := by
  have oc := con_ord o
  refine List.ext_getElem? fun i => ?_
  by_cases h : i < l.length
  · rw [conL_at (by rw [conL_len]; exact h), getD_of h]
    obtain ⟨x1, x2⟩ := o.mem.mp (List.mem_of_getElem? (getD_of h))
    generalize hx : l.getD i 0 = x at *
    have hp : (x - 1).toNat < l.length := by omega
    have e1 : (conL l)[(x - 1).toNat]? = some (1 + (i : Int)) := by
      rw [conL_at hp, show 1 + (((x - 1).toNat : Nat) : Int) = x by omega]
      have e2 : l[i]? = some x := by rw [getD_of h, hx]
      rw [idxN_is o.nodup e2]
      exact congrArg some (by omega)
    rw [idxN_is oc.nodup e1]
    exact congrArg some (by omega)
  · rw [List.getElem?_eq_none (by rw [conL_len, conL_len]; omega), List.getElem?_eq_none (by omega)]
theorem ne_next {l : List Int} (o : Ord l) {i : Nat} (h : i + 1 < l.length) : l.getD i 0 ≠ l.getD (i + 1) 0 := fun e => by
  have z : l[i]? = l[i + 1]? := by rw [getD_of (by omega), getD_of h, e]
  have := (List.getElem?_inj (by omega) o.nodup).mp z
  omega
theorem tb_at {l : List Int} {i : Nat} (h : i < l.length - 1) : (tb l)[i]? = some (decide (l.getD i 0 < l.getD (i + 1) 0)) := by
  unfold tb
  rw [List.getElem?_map, List.getElem?_range h]; rfl
theorem lt_not {a b : Int} (h : a ≠ b) : decide (b < a) = !decide (a < b) := by
  by_cases c : a < b
  · rw [decide_eq_true c, decide_eq_false (by omega)]; rfl
  · rw [decide_eq_false c, decide_eq_true (by omega)]; rfl
theorem tb_over {l : List Int} (o : Ord l) : tb (overL l) = (tb l).map not := by
  refine List.ext_getElem? fun i => ?_
  rw [List.getElem?_map]
  by_cases h : i < l.length - 1
  · rw [tb_at (by rw [overL_len]; exact h), tb_at h, overL_at (by omega), overL_at (by omega)]
    show some _ = some (!decide (l.getD i 0 < l.getD (i + 1) 0))
    rw [← lt_not (ne_next o (by omega))]
    refine congrArg some ?_
    rw [Bool.eq_iff_iff, decide_eq_true_eq, decide_eq_true_eq]
    omega
  · rw [List.getElem?_eq_none (by rw [tb_len, overL_len]; omega), List.getElem?_eq_none (by rw [tb_len]; omega)]; rfl
theorem rev_getD {l : List Int} {i : Nat} (h : i < l.length) : l.reverse.getD i 0 = l.getD (l.length - 1 - i) 0 := by
  rw [List.getD_eq_getElem?_getD, List.getD_eq_getElem?_getD, List.getElem?_reverse h]
theorem tb_rev {l : List Int} (o : Ord l) : tb l.reverse = (tb (overL l)).reverse := by
  rw [tb_over o]
  refine List.ext_getElem? fun i => ?_
  by_cases h : i < l.length - 1
  · rw [tb_at (by rw [List.length_reverse]; exact h), List.getElem?_reverse (by rw [List.length_map, tb_len]; exact h), List.getElem?_map, List.length_map, tb_len, tb_at (by omega), rev_getD (by omega), rev_getD (by omega)]
    show some _ = some (!decide (l.getD (l.length - 1 - 1 - i) 0 < l.getD (l.length - 1 - 1 - i + 1) 0))
    rw [← lt_not (ne_next o (by omega)), show l.length - 1 - 1 - i + 1 = l.length - 1 - i by omega, show l.length - 1 - (i + 1) = l.length - 1 - 1 - i by omega]
  · rw [List.getElem?_eq_none (by rw [tb_len, List.length_reverse]; omega), List.getElem?_eq_none (by rw [List.length_reverse, List.length_map, tb_len]; omega)]
theorem not_inj : ∀ {a b : List Bool}, a.map not = b.map not → a = b
  | [], [], _ => rfl
  | [], _ :: _, h => by cases h
  | _ :: _, [], h => by cases h
  | x :: xs, y :: ys, h => by
    obtain ⟨h1, h2⟩ := List.cons.inj h
    rw [not_inj h2, Bool.not_inj h1]
theorem ud_du {l : List Int} (o : Ord l) : decide (tb (overL l) = altB true ((overL l).length - 1)) = decide (tb l = altB false (l.length - 1)) := by
  rw [overL_len, tb_over o, show altB true (l.length - 1) = (altB false (l.length - 1)).map not from alt_not false _, Bool.eq_iff_iff, decide_eq_true_eq, decide_eq_true_eq]
  exact ⟨not_inj, fun h => by rw [h]⟩
/-- the order of a row that is an order led through a rising f -/
theorem ordL_f {l ms : List Int} (o : Ord l) {f : Int → Int} (hf : ∀ a b, a < b → f a < f b) (p : ms.Perm (l.map f)) (w : ms.Pairwise (· ≤ ·)) : ordL ms (l.map f) = l := by
  have lt : ((rng l.length).map f).Pairwise (· < ·) := by
    rw [List.pairwise_map]
    exact (rng_lt _).imp fun h => hf _ _ h
  have e : ms = (rng l.length).map f := (p.trans (o.perm.map f)).eq_of_pairwise (fun a b _ _ h1 h2 => by omega) w (lt.imp fun h => by omega)
  have nd : ((rng l.length).map f).Nodup := lt.imp fun h e => by omega
  unfold ordL
  rw [e, List.map_map]
  refine List.ext_getElem? fun i => ?_
  rw [List.getElem?_map]
  by_cases h : i < l.length
  · rw [getD_of h]
    obtain ⟨x1, x2⟩ := o.mem.mp (List.mem_of_getElem? (getD_of h))
    generalize l.getD i 0 = x at *
    show some (((idxN (f x) ((rng l.length).map f) : Nat) : Int) + 1) = some x
    have e1 : ((rng l.length).map f)[(x - 1).toNat]? = some (f x) := by
      rw [List.getElem?_map, rng_at (by omega), show 1 + (((x - 1).toNat : Nat) : Int) = x by omega]; rfl
    rw [idxN_is nd e1]
    exact congrArg some (by omega)
  · rw [List.getElem?_eq_none (by omega)]; rfl
theorem nodup_f {l : List Int} (o : Ord l) {f : Int → Int} (hf : ∀ a b, a < b → f a < f b) : (l.map f).Nodup := by
  have lt : ((rng l.length).map f).Pairwise (· < ·) := by
    rw [List.pairwise_map]
    exact (rng_lt _).imp fun h => hf _ _ h
  have nd : ((rng l.length).map f).Nodup := lt.imp fun h e => by omega
  exact ((o.perm.map f).symm).nodup nd
theorem wo_rng {n : Nat} {b : Int} (h1 : 1 ≤ b) (h2 : b ≤ n) : (woL b (rng n)).Perm (rng (n - 1)) := by
  have lt : (woL b (rng n)).Pairwise (· < ·) := by
    unfold woL
    rw [List.pairwise_map]
    refine List.Pairwise.imp_of_mem ?_ ((rng_lt n).filter _)
    intro x y hx hy h
    have nx := (List.mem_filter.mp hx).2
    have ny := (List.mem_filter.mp hy).2
    have nx := bne_iff_ne.mp nx
    have ny := bne_iff_ne.mp ny
    split <;> split <;> omega
  refine (List.perm_ext_iff_of_nodup (lt.imp fun h e => by omega) (rng_nodup _)).mpr fun x => ?_
  unfold woL
  rw [List.mem_map, mem_rng]
  constructor
  · rintro ⟨y, hy, rfl⟩
    obtain ⟨hy1, hy2⟩ := List.mem_filter.mp hy
    have := mem_rng.mp hy1
    have := bne_iff_ne.mp hy2
    split <;> omega
  · rintro ⟨x1, x2⟩
    by_cases c : x < b
    · exact ⟨x, List.mem_filter.mpr ⟨mem_rng.mpr (by omega), bne_iff_ne.mpr (by omega)⟩, by rw [if_neg (by omega)]⟩
    · exact ⟨x + 1, List.mem_filter.mpr ⟨mem_rng.mpr (by omega), bne_iff_ne.mpr (by omega)⟩, by rw [if_pos (by omega)]; omega⟩
theorem wo_ord {l : List Int} (o : Ord l) {b : Int} (hb : b ∈ l) (h2 : 2 ≤ l.length) : Ord (woL b l) ∧ (woL b l).length = l.length - 1 := by
  obtain ⟨b1, b2⟩ := o.mem.mp hb
  have p : (woL b l).Perm (rng (l.length - 1)) := by
    refine List.Perm.trans ?_ (wo_rng b1 b2)
    unfold woL
    exact (o.perm.filter _).map _
  have e : (woL b l).length = l.length - 1 := by rw [p.length_eq, rng_len]
  have := o.few
  exact ⟨⟨by omega, by omega, by rw [e]; exact p⟩, e⟩
def tupD (l : List Int) : PyData := .tuple (l.map PyData.int)
theorem dp_tup {K : PySem.W.Frag} {H : Hp} {a : Addr} {l : List Int} (h : SqT K H a (l.map V.int)) : Dp K H (.ref a) (tupD l) := .tup h (dp_ints l)
theorem lay_tup (l : List Int) : PyData.canLay0 (tupD l) = true := lay_ints l
theorem shaped_tup (l : List Int) : SeqAt.shaped (tupD l) = true := by
  show ((PyData.canLayAll0 (l.map PyData.int)) && decide (PyData.depthAll (l.map PyData.int) + 1 ≤ 64)) = true
  rw [lay_ints, depth_ints]; rfl
theorem eqv_tup (l : List Int) : PyData.eqv (tupD l) (tupD l) = true := SeqAt.eqv_refl _ (lay_tup l)
def threeD (l : List Int) : PyData := .list [tupD l, tupD l, tupD l]
theorem lay_three (l : List Int) : PyData.canLay0 (threeD l) = true := by
  show (PyData.canLay0 (tupD l) && (PyData.canLay0 (tupD l) && (PyData.canLay0 (tupD l) && true))) = true
  rw [lay_tup]; rfl
theorem shaped_three (l : List Int) : SeqAt.shaped (threeD l) = true := by
  have d : PyData.depth (tupD l) = 1 := by
    show PyData.depthAll (l.map PyData.int) + 1 = 1
    rw [depth_ints]
  show (PyData.canLay0 (threeD l) && decide (max (PyData.depth (tupD l)) (max (PyData.depth (tupD l)) (max (PyData.depth (tupD l)) 0)) + 1 ≤ 64)) = true
  rw [lay_three, d]; rfl
theorem eqv_three (l : List Int) : PyData.eqv (threeD l) (threeD l) = true := SeqAt.eqv_refl _ (lay_three l)
theorem dp_three {K : PySem.W.Frag} {H : Hp} {p a b c : Addr} {l : List Int} (e : SqL K H p [.ref a, .ref b, .ref c]) (ha : SqT K H a (l.map V.int)) (hb : SqT K H b (l.map V.int)) (hc : SqT K H c (l.map V.int)) : Dp K H (.ref p) (threeD l) :=
  .lst e (.cons (dp_tup ha) (.cons (dp_tup hb) (.cons (dp_tup hc) .nil)))
theorem len_ones : ∀ bs : List Bool, ((bs.map oneB).map (·.length)).sum = bs.length
  | [] => rfl
  | b :: bs => by
    rw [List.map_cons, List.map_cons, List.sum_cons, len_ones bs, List.length_cons]
    have e : (oneB b).length = 1 := by cases b <;> rfl
    rw [e]; omega
/-- the sign at a place of a text of turns -/
theorem sign_at {bs : List Bool} {i : Nat} {b : Bool} (h : bs[i]? = some b) : (textB bs).cps.toList[i]? = some (sgB b) := by
  unfold textB
  rw [List.getElem?_map, h]; rfl
theorem textB_len (bs : List Bool) : (textB bs).length = bs.length := by
  show (bs.map sgB).toArray.size = _
  rw [List.size_toArray, List.length_map]
theorem swap_sign (b : Bool) : decide (V.str ⟨#[sgB b]⟩ = V.str "u") = b := by cases b <;> decide
theorem ud_at (b : Bool) : atI ("ud" : Str).cps.toList (if b = true then 1 else 0) = some (sgB (!b)) := by cases b <;> rfl
theorem one_eq (b : Bool) : (⟨#[sgB b]⟩ : Str) = oneB b := by cases b <;> rfl
theorem textB_rev (bs : List Bool) : (⟨(textB bs).cps.toList.reverse.toArray⟩ : Str) = textB bs.reverse := by
  show (⟨(bs.map sgB).reverse.toArray⟩ : Str) = ⟨(bs.reverse.map sgB).toArray⟩
  rw [List.map_reverse]
end Up

set_option Elab.async false
set_option linter.all false
set_option maxRecDepth 100000
set_option maxHeartbeats 4000000
/-! things of whatever kind, and whether they are orders -/
namespace Up
open PySem PySem.Spec PyProof.Rows L2
/-- an item of a tuple: some i is the whole number i, none is another thing -/
inductive It1 (H : Hp) : V → Option Int → Prop
  | int (i : Int) : It1 H (.int i) (some i)
  | bl (b : Bool) : It1 H (.bl b) none
  | str (z : Str) (n : PyData.canLay0 (.str z) = true) : It1 H (.str z) none
  | non : It1 H .non none
  | lst {a : Addr} {l : List Int} (h : H a = some (.lst (l.map V.int))) : It1 H (.ref a) none
  | tup {a : Addr} {l : List Int} (h : H a = some (.tup (l.map V.int))) : It1 H (.ref a) none
  | frz {a : Addr} {ob : Obj} {l : List Int} (h : H a = some (.frz ob (.tup (l.map V.int)))) : It1 H (.ref a) none
theorem It1.ext {H H' : Hp} {y : V} {w : Option Int} (h : It1 H y w) (e : LamX.ExtN H H') : It1 H' y w := by
  cases h with
  | int i => exact .int i
  | bl b => exact .bl b
  | str z n => exact .str z n
  | non => exact .non
  | lst h => exact .lst (e _ _ h fun _ z => by cases z)
  | tup h => exact .tup (e _ _ h fun _ z => by cases z)
  | frz h => exact .frz (e _ _ h fun _ z => by cases z)
theorem It1.dp {K : PySem.W.Frag} {H : Hp} {y : V} {w : Option Int} (h : It1 H y w) : ∃ d : PyData, Dp K H y d ∧ PyData.canLay0 d = true ∧ PyData.depth d ≤ 1 := by
  cases h with
  | int i => exact ⟨_, .int i, rfl, Nat.zero_le _⟩
  | bl b => exact ⟨_, .bl b, rfl, Nat.zero_le _⟩
  | str z n => exact ⟨_, .str z, n, Nat.zero_le _⟩
  | non => exact ⟨_, .non, rfl, Nat.zero_le _⟩
  | @lst a l h => exact ⟨_, .lst (SqL.of h) (dp_ints l), lay_ints l, by show PyData.depthAll (l.map PyData.int) + 1 ≤ 1; rw [depth_ints]; exact Nat.le_refl _⟩
  | @tup a l h => exact ⟨_, .tup (SqT.of h) (dp_ints l), lay_ints l, by show PyData.depthAll (l.map PyData.int) + 1 ≤ 1; rw [depth_ints]; exact Nat.le_refl _⟩
  | @frz a ob l h => exact ⟨_, .tup (.inl (.inr ⟨ob, h⟩)) (dp_ints l), lay_ints l, by show PyData.depthAll (l.map PyData.int) + 1 ≤ 1; rw [depth_ints]; exact Nat.le_refl _⟩
theorem It1.whole {H : Hp} {P : Addr} {y : V} {w : Option Int} (h : It1 H y w) (hP : GxR.TabG H P) : WholeV H P y w.isSome := by
  obtain ⟨ps, eP, _⟩ := hP
  cases h with
  | int i => exact .int i
  | bl b => exact .bl b
  | str z n => exact .str z
  | non => exact .non
  | lst h => exact .lst h fun z => by rw [z, eP] at h; cases h
  | tup h => exact .tup h fun z => by rw [z, eP] at h; cases h
  | frz h => exact .frz h fun z => by rw [z, eP] at h; cases h
theorem It1.thing {K : PySem.W.Frag} {H : Hp} {y : V} {w : Option Int} (h : It1 H y w) : Thing K H y w.isSome := by
  cases h with
  | int i => exact thing_int i
  | bl b => exact thing_bl b
  | str z n => exact thing_str z
  | non => exact thing_non
  | lst h => exact thing_lst h
  | tup h => exact thing_tup h
  | frz h => exact ⟨⟨"tuple", .fTuple h, by decide, rfl⟩, (fun z => nomatch z), fun _ _ z => nomatch z⟩
/-- a thing: none is no tuple, some ws a tuple of such items -/
inductive TD (K : PySem.W.Frag) (H : Hp) : V → Option (List (Option Int)) → Prop
  | tup {a : Addr} {xs : List V} {ws : List (Option Int)} (h : SqT K H a xs) (n : xs.length = ws.length) (s : xs.length ≤ 100) (it : ∀ (i : Nat) (y : V) (w : Option Int), xs[i]? = some y → ws[i]? = some w → It1 H y w) : TD K H (.ref a) (some ws)
  | other {x : V} {ty : String} (t : TyX K H x (.type ty)) (m : ty ∈ tyNames) (n : ty ≠ "tuple") : TD K H x none
theorem TD.ext {K : PySem.W.Frag} {H H' : Hp} {x : V} {d : Option (List (Option Int))} (h : TD K H x d) (e : LamX.ExtN H H') : TD K H' x d := by
  cases h with
  | tup h n s it => exact .tup (ext_sqt e h) n s fun i y w h1 h2 => (it i y w h1 h2).ext e
  | other t m n => exact .other (tyx_ext e t) m n
theorem TD.kind {K : PySem.W.Frag} {H : Hp} {x : V} {d : Option (List (Option Int))} (h : TD K H x d) : ∃ ty, TyX K H x (.type ty) ∧ PySem.W.kitOne K (.type ty) (.type "tuple") = some d.isSome := by
  cases h with
  | tup h n s it => exact ⟨_, tyx_sqt h, kit_tt⟩
  | @other x ty t m n => exact ⟨_, t, kit_ty (by rw [kit_tuple ty m]; exact congrArg some (beq_eq_false_iff_ne.mpr n))⟩
/-- a tuple of whole numbers alone -/
theorem TD.ints {K : PySem.W.Frag} {H : Hp} {x : V} {ws : List (Option Int)} (h : TD K H x (some ws)) (a : ws.all (·.isSome) = true) : ∃ p, x = .ref p ∧ SqT K H p ((ws.map (·.getD 0)).map V.int) := by
  cases h with
  | @tup p xs ws h n s it =>
    refine ⟨p, rfl, ?_⟩
    have e : xs = (ws.map (·.getD 0)).map V.int := by
      refine List.ext_getElem? fun i => ?_
      rw [List.getElem?_map, List.getElem?_map]
      by_cases hi : i < xs.length
      · have hw : i < ws.length := by omega
        rw [List.getElem?_eq_getElem hi, List.getElem?_eq_getElem hw]
        have k := it i _ _ (List.getElem?_eq_getElem hi) (List.getElem?_eq_getElem hw)
        have sm := List.all_eq_true.mp a _ (List.getElem_mem hw)
        generalize xs[i] = y at *
        generalize ws[i] = w at *
        cases k with
        | int i => rfl
        | _ => cases sm
      · rw [List.getElem?_eq_none (by omega), List.getElem?_eq_none (by omega)]; rfl
    rw [← e]
    exact h
theorem TD.of {K : PySem.W.Frag} {H : Hp} {p : Addr} {l : List Int} (h : SqT K H p (l.map V.int)) (s : l.length ≤ 100) : TD K H (.ref p) (some (l.map some)) := by
  refine .tup h (by rw [List.length_map, List.length_map]) (by rw [List.length_map]; exact s) fun i y w h1 h2 => ?_
  rw [List.getElem?_map] at h1 h2
  cases e : l[i]? with
  | none => rw [e] at h1; cases h1
  | some z =>
    rw [e] at h1 h2
    cases h1
    cases h2
    exact .int z
def wholeB : Option (List (Option Int)) → Bool
  | none => false
  | some ws => decide (1 ≤ ws.length) && (decide (ws.length ≤ 40) && ws.all (·.isSome))
def permB (l : List Int) : Bool := decide (l.Perm (rng l.length))
def ordB (d : Option (List (Option Int))) : Bool := wholeB d && match d with
  | none => false
  | some ws => permB (ws.map (·.getD 0))
theorem wholeB_some {ws : List (Option Int)} (h : wholeB (some ws) = true) : 1 ≤ ws.length ∧ ws.length ≤ 40 ∧ ws.all (·.isSome) = true := by
  unfold wholeB at h
  rw [Bool.and_eq_true, Bool.and_eq_true, decide_eq_true_eq, decide_eq_true_eq] at h
  exact ⟨h.1, h.2.1, h.2.2⟩
theorem ordB_ord {ws : List (Option Int)} (h : ordB (some ws) = true) : Ord (ws.map (·.getD 0)) := by
  unfold ordB at h
  rw [Bool.and_eq_true] at h
  obtain ⟨h1, h2, _⟩ := wholeB_some h.1
  exact ⟨by rw [List.length_map]; exact h1, by rw [List.length_map]; exact h2, of_decide_eq_true h.2⟩
theorem ordB_of {l : List Int} (o : Ord l) : ordB (some (l.map some)) = true := by
  have e : (l.map some).map (·.getD 0) = l := by rw [List.map_map]; exact List.map_id l
  unfold ordB
  show (wholeB (some (l.map some)) && permB ((l.map some).map (·.getD 0))) = true
  rw [e]
  show ((decide (1 ≤ (l.map some).length) && (decide ((l.map some).length ≤ 40) && (l.map some).all (·.isSome))) && decide (l.Perm (rng l.length))) = true
  rw [List.length_map, decide_eq_true o.pos, decide_eq_true o.few, decide_eq_true o.perm]
  simp
theorem eqvAll_ints : ∀ a b : List Int, PyData.eqvAll (a.map PyData.int) (b.map PyData.int) = decide (a = b)
  | [], [] => rfl
  | [], _ :: _ => rfl
  | _ :: _, [] => rfl
  | x :: a, y :: b => by
    show ((x == y) && PyData.eqvAll (a.map PyData.int) (b.map PyData.int)) = _
    rw [eqvAll_ints a b, Bool.eq_iff_iff, Bool.and_eq_true, decide_eq_true_eq, decide_eq_true_eq, beq_iff_eq, List.cons.injEq]
theorem eq_ints {K : PySem.W.Frag} {H : Hp} {x y : V} {a b : List Int} {Q : VK} (h1 : Dp K H x (intsD a)) (h2 : Dp K H y (intsD b)) (q : Q (.bl (decide (a = b))) H) : rEqD K x y H Q :=
  ⟨_, _, h1, h2, shaped_ints a, shaped_ints b, by
    show Q (.bl (PyData.eqvAll (a.map PyData.int) (b.map PyData.int))) H
    rw [eqvAll_ints]; exact q⟩
/-- the sorted numbers are those from 1 on just where they are an order -/
theorem sorted_perm {l ms : List Int} (p : ms.Perm l) (w : ms.Pairwise (· ≤ ·)) : decide (ms = rng l.length) = permB l := by
  unfold permB
  rw [Bool.eq_iff_iff, decide_eq_true_eq, decide_eq_true_eq]
  exact ⟨fun e => by rw [← e]; exact p.symm, fun h => (p.trans h).eq_of_pairwise (fun a b _ _ h1 h2 => by omega) w (rng_le _)⟩
end Up

set_option Elab.async false
set_option linter.all false
set_option maxRecDepth 100000
set_option maxHeartbeats 4000000
/-! a lambda handed to a def, where other tables stand beside the law's own: these stay as they are -/
namespace Up
open PySem PySem.Spec PyProof.Rows L2
/-- all but what stands at P stays -/
def Lone (P : Addr) (H H' : Hp) : Prop := ∀ b o, H b = some o → b ≠ P → H' b = some o
theorem Lone.ext {P : Addr} {q : Str} {H H' : Hp} (a : Lone P H H') (t : LamX.TabS H P q) : LamX.ExtN H H' := fun b o e n => by
  obtain ⟨ps, eP, _⟩ := t
  exact a b o e fun z => by rw [z, eP] at e; exact n _ (Option.some.inj e).symm
theorem Lone.tg {P : Addr} {Ps : List Addr} {H H' : Hp} (a : Lone P H H') (t : TG Ps H) (n : P ∉ Ps) : TG Ps H' := fun Q hQ => by
  obtain ⟨ps, e, k⟩ := t Q hQ
  exact ⟨ps, a Q _ e fun z => n (z ▸ hQ), k⟩
section
variable {X : Cx} {pins : List (Addr × Obj)} {σ : L2.St} {H : Hp} {s : Shared}
theorem lam_new {cd P : Addr} {pms : Arguments} {bod : Expr} {sco : Scope} {ps0 : Pos} {Ex : Value → Shared → Prop} {Go' : Value → Shared → Prop}
    (I : Inv X pins σ H s) (tb : LamX.TabB X.base X.mg cd P) (hc : X.env.code = .ref cd)
    (t0 : LamX.TabS H P (X.env.qual ++ "<lambda>")) (nod : defaultsOf pms X.env = ([], []))
    (fre : ∀ y ∈ sco.names, y.2 = .free → ∃ a, X.env.cells.lookup y.1 = some a)
    (cont : ∀ (fa ca : Addr) (pm tv : Value) (G : Hp) (s1 : Shared), Inv X pins σ G s1 →
      Lone P H G → LamX.TabS G P (X.env.qual ++ "<lambda>") →
      s1.heap.get? fa = some (PySem.W.kla_obj "<lambda>" (X.env.qual ++ "<lambda>") pms bod sco
        (cloFrom X.env.cells sco.names []) pm ca tv) →
      G fa = none → fa ∉ frs X.stack → G ca = some (LamX.CodeO ca (X.env.qual ++ "<lambda>")) →
      Go' (.ref fa) s1) :
    wpAny (model X.prog X.w) X.A (eval (.Lambda pms bod sco ps0) X.env) Go' Ex s := by
  obtain ⟨tb0, eP, trip, codes⟩ := t0
  have objP : s.heap.get? P = some { cls := .none, data := .fields tb0 } := I.hok P _ eP
  have apart : ∀ fa, s.heap.objs.size ≤ fa → fa ∉ frs X.stack := by
    intro fa hfa z
    cases List.mem_cons.mp (I.stkSub _ z) with
    | inl e =>
      have lt := I.lt
      rw [← e] at lt
      exact absurd (Nat.lt_of_lt_of_le lt hfa) (Nat.lt_irrefl _)
    | inr e => exact I.nofs hfa e
  refine PySem.W.kla_eval nod ?_
  cases found : codeAmong ps0 tb0.toList with
  | some cv =>
    obtain ⟨ca, rfl, hca⟩ := codes ps0 cv found
    refine PySem.W.kla_makeFunctionHit (mg := X.mg) (c := cd) (P := P) (ps := tb0)
      (closure_ok fre) I.ok.glob (I.mod.glob.keeps I.bk) hc (tb.code.keeps I.bk) objP
      trip found (tb.bm.keeps I.bk) fun tv hp tk kx le => ?_
    exact cont hp.objs.size ca ((X.mg "__name__").getD .none) tv H _
      (I.kept (t' := tk) fun b o e => Heap.get?_push_of_some _ (kx b o e))
      (fun b o e _ => e) ⟨tb0, eP, trip, codes⟩ (Heap.get?_push_size _ rfl)
      (I.hok.fresh le) (apart _ le) hca
  | none =>
    refine PySem.W.kla_makeFunction (mg := X.mg) (c := cd) (P := P) (ps := tb0)
      (closure_ok fre) I.ok.glob (I.mod.glob.keeps I.bk) hc (tb.code.keeps I.bk) objP
      trip found tb.gP (tb.bm.keeps I.bk) fun ca tv hp tk kx ge lt rec htb => ?_
    obtain ⟨c2, oc, fs, tt, e2, hoc, hfs, hv⟩ := rec
    cases e2
    have le : s.heap.objs.size ≤ hp.objs.size := Nat.le_trans ge (Nat.le_of_lt lt)
    have newC : H ca = none := I.hok.fresh ge
    have J := LamX.inv_table (t' := tk) (more := #[rawInt ps0.line, rawInt ps0.col, .ref ca])
      (h' := hp.push (PySem.W.kla_obj "<lambda>" (X.env.qual ++ "<lambda>") pms bod sco
        (cloFrom X.env.cells sco.names []) ((X.mg "__name__").getD .none) ca tv)) I eP
      (fun b o hb e => Heap.get?_push_of_some _ (kx b o hb e))
      (Heap.get?_push_of_some _ htb) ge ⟨oc, fs, tt, Heap.get?_push_of_some _ hoc, hfs, hv⟩
    have only : Lone P H (upd (upd H P (.tbl (tb0 ++ #[rawInt ps0.line, rawInt ps0.col, .ref ca])))
        ca (LamX.CodeO ca (X.env.qual ++ "<lambda>"))) := fun b o e nb => by
      rw [upd_ne (ne_of_none e newC), upd_ne nb]
      exact e
    have snoc : (tb0 ++ #[rawInt ps0.line, rawInt ps0.col, .ref ca]).toList
        = tb0.toList ++ [rawInt ps0.line, rawInt ps0.col, .ref ca] := by simp
    refine cont hp.objs.size ca ((X.mg "__name__").getD .none) tv _ _ J only ?_
      (Heap.get?_push_size _ rfl) ?_ (apart _ le) upd_same
    · refine ⟨tb0 ++ #[rawInt ps0.line, rawInt ps0.col, .ref ca], ?_, ?_, fun p2 cv2 h2 => ?_⟩
      · rw [upd_ne (ne_of_none eP newC), upd_same]
      · rw [snoc]; exact PySem.TriplesOk_snoc _ _ _ _ trip
      · rw [snoc] at h2
        cases LamX.among_app _ trip h2 with
        | inl z =>
          obtain ⟨c0, e1, e2⟩ := codes p2 cv2 z
          exact ⟨c0, e1, only _ _ e2 fun y => by rw [y, eP] at e2; unfold LamX.CodeO at e2; cases e2⟩
        | inr z => exact ⟨ca, z, upd_same⟩
    · rw [upd_ne (Nat.ne_of_gt lt), upd_ne (Nat.ne_of_gt (Nat.lt_of_lt_of_le (Heap.lt_size objP) le))]
      exact I.hok.fresh le
/-- x(lambda: ..): what other tables hold stays -/
def tLamL (P : Addr) (q : Str) (TT : (XK → Hp → VK → Prop) → Hp → VK → Prop) (t : XK → TE) : TE := fun σ H Q =>
  LamX.TabS H P q ∧ ∀ G, Lone P H G → LamX.TabS G P q → TT (fun E H' Q' => t E σ H' Q') G Q
theorem pe_lamcallL {TT : (XK → Hp → VK → Prop) → Hp → VK → Prop} {x a : Str} {g cd P : Addr} {k : Nat} {pg : Arguments} {bg : List Stmt} {sg : Scope}
    {dV kV doc pm cdv ct oc : Value} {an od : Option Addr} {osl : Array (Option Value)} {Ng : List Str} {pms : Arguments} {bod : Expr} {sco : Scope} {t : XK → TE} {p p1 p2 : Pos}
    (hg : Gl X x) (hm : X.mg x = some (.ref g)) (hk : PySem.W.keepIn X.K (.ref g) = true)
    (lk : X.K.lookup g = some ⟨oc, od, .func (PySem.W.fnOf x x pg bg sg dV kV doc pm an cdv ct), osl⟩)
    (hcg : PySem.W.codeIn X.K cdv x = true) (hb : L2.Binds X.K (PySem.W.fnOf x x pg bg sg dV kV doc pm an cdv ct) [a] [])
    (Sg : FnScope Ng [a] sg) (hNg : Ng[0]? = some a) (hva : Vis sg a)
    (hG : LamX.GivesTo X Ng x sg g cdv bg a (X.env.qual ++ "<lambda>") TT)
    (tb : LamX.TabB X.base X.mg cd P) (hc : X.env.code = .ref cd) (hr : Room (k + 2) X.A)
    (L : LamX.LamS X.env.scope sco) (nod : defaultsOf pms X.env = ([], []))
    (hbind : ∀ (q : Str) (cl : List (Str × Addr)) (pm cv ctv : Value), bindArgs (PySem.W.kla_fn "<lambda>" q pms bod sco cl pm cv ctv) ⟨[], []⟩ = pure [])
    (hbody : ∀ (A : Around) (outer : List Env) (s : Shared) (H : Hp) (E : XK) (fa ca : Addr),
      Room k (A.deeper (LamX.lamEnv X sco s.heap.objs.size fa ca)) → PE (LamX.lamCx X A outer s H E sco fa ca) bod (t E))
    (n1 : (x == ("__debug__" : Str)) = false := by decide) (n2 : (a == ("__debug__" : Str)) = false := by decide)
    (n3 : (a == ("__classdict__" : Str)) = false := by decide) :
    PE X (.Call (.Name x p) [.Lambda pms bod sco p1] [] p2) (tLamL P (X.env.qual ++ "<lambda>") TT t) := by
  refine ⟨fun pins s σ H Q I ⟨t0, rest⟩ => ?_⟩
  refine wpAny_Call_Name_kw (ld_glob I hg hm ?_ n1)
  refine PySem.W.callWith_K (h₀ := X.base) I.ok.mod.kin hk ?_ (by rfl) (by rfl)
  show wpAny _ _ (spliced ((false, eval (.Lambda pms bod sco p1) X.env) :: backTo p2 (starEach [] X.env))) _ _ s
  refine Calls.spliced_cons (lam_new I tb hc t0 nod (L.has I.ok) fun fa ca pm' tv G s1 J only t1 hf nf nfr hco => ?_)
  refine Calls.spliced_nil ⟨J.kIn, ?_⟩
  have done : codeAny (model X.prog X.w) X.A (.call (.ref g) ⟨[.ref fa], []⟩)
      (CR C8.CX0 X.stack X.prog X.w G s1 Q C8.E0) s1 := by
    refine LamX.run_ofS (N := Ng) (ps := [a]) (us := [.ref fa]) (vs := [.ref fa]) lk hcg Sg hr J.env0
      (hb s1 [.ref fa] J.kIn rfl) (.cons rfl .nil) rfl fun hr1 => ?_
    obtain ⟨tt, htt, hq⟩ := hG fa ca s1 G Q (fun E H' Q' => t E σ H' Q')
      (fun W pn xe E a1 a2 tk hW => LamX.pe_act (i := 0) J L hf nf nfr (hbind _ _ _ _ _) tk hW hr1
        (fun A outer s H hr2 => hbody A outer s H E fa ca hr2) hNg hva n2 n3) hco (rest G only t1)
    exact ⟨tt, htt.nox, hq⟩
  refine wpAny_call (codeAny_mono done fun r s2 h2 => ?_)
  match r, h2 with
  | .error _, h2 => exact (show False from h2).elim
  | .ok (.ret u), h2 => exact J.after h2
  | .ok .next, h2 => exact False.elim h2
  | .ok .brk, h2 => exact False.elim h2
  | .ok .cont, h2 => exact False.elim h2
end
end Up

set_option Elab.async false
set_option linter.all false
set_option maxRecDepth 100000
set_option maxHeartbeats 4000000
/-! enumerate of a tuple -/
namespace PySem
open Sem (wp)
open AutoSeq1 (wpAny_loadPart')
theorem up_enum_new (l : Addr) (items : Array Value) (n : Nat) (dct : Option Addr) (sl : Array (Option Value)) :
    Meets (Builtin.«enumerate.__new__» ⟨[.type "enumerate", .ref l], []⟩) (fun _ R s =>
      s.heap.get? l = some { cls := .type "tuple", dict := dct, data := .seq items n, slots := sl } ∧
      R (.ok (.ret (.ref (s.heap.push { cls := .type "tuple_iterator", data := .fields #[.ref l, .int 0 0] }).objs.size)))
        { s with heap := Heap.push (Heap.push s.heap { cls := .type "tuple_iterator", data := .fields #[.ref l, .int 0 0] }) { cls := .type "enumerate", data := .fields #[.none, .bool false, .ref s.heap.objs.size, rawInt 0, .none, .none] } }) :=
  .of_wp fun prog w A R s h => by
    obtain ⟨hp, g, d, tk, os⟩ := s
    obtain ⟨hl, h⟩ := h
    have known := sub_enumerate
    have tup : Heap.IsTuple (Shared.heap ⟨hp, g, d, tk, os⟩) l items := ⟨_, hl, rfl, n, rfl⟩
    wp_walk using wpAny_loadPart' hl
    refine wpAny_stack_any fun st => wpAny_pure ?_
    split
    · rename_i c _ _ _ _ _
      cases (c == Value.type "enumerate")
      · wp_walk using wpAny_loadPart' hl, wpAny_pyIter_tuple tup
        exact ⟨_, rfl, h⟩
      · wp_walk using wpAny_loadPart' hl, wpAny_pyIter_tuple tup
        exact ⟨_, rfl, h⟩
    · wp_walk using wpAny_loadPart' hl, wpAny_pyIter_tuple tup
      exact ⟨_, rfl, h⟩
section
variable {prog : Program} {w : World} {A : Around} {E : Value → Shared → Prop} {s : Shared}
theorem up_call_enum {l : Addr} {items : Array Value} {Q : Value → Shared → Prop} (hL : s.heap.IsTuple l items)
    (h : ∀ h', IsEnum h' (s.heap.objs.size + 1) s.heap.objs.size 0 .none → h'.IsTupleIter s.heap.objs.size l 0 →
      (∀ b o, s.heap.get? b = some o → h'.get? b = some o) → Q (.ref (s.heap.objs.size + 1)) { s with heap := h' }) :
    wpAny (model prog w) A (call (.type "enumerate") [.ref l]) Q E s := by
  obtain ⟨⟨c, dct, dt, sl⟩, hl, hc, n, hd⟩ := hL
  simp only at hc hd
  subst hc hd
  refine callType_new F.called_enumerate (by decide) (F.typeCall_enumerate_1 _) (F.newCall_enumerate_1 _)
    (fun obj => F.args_object_init_2 obj _) F.entry_enumerate_new (up_enum_new l items n dct sl) ⟨hl, ?_⟩
  have z : (s.heap.push { cls := .type "tuple_iterator", data := .fields #[.ref l, .int 0 0] }).objs.size = s.heap.objs.size + 1 := Heap.size_push ..
  show _ ∧ _
  rw [z]
  have en := Heap.get?_push_size (s.heap.push { cls := .type "tuple_iterator", data := .fields #[.ref l, .int 0 0] })
    (o := { cls := .type "enumerate", data := .fields #[.none, .bool false, .ref s.heap.objs.size, rawInt 0, .none, .none] }) rfl
  rw [z] at en
  exact ⟨⟨_, en, rfl⟩, h _ en ⟨_, Heap.get?_push_of_some _ (Heap.get?_push_size _ rfl), rfl, rfl⟩
    fun b o x => Heap.get?_push_of_some _ (Heap.get?_push_of_some _ x)⟩
end
end PySem
namespace Up
open PySem PySem.Spec PyProof.Rows L2
def ItenT (K : PySem.W.Frag) (a : Addr) : It :=
  ⟨fun i H => ∃ (xs : List V) (x : V), SqT K H a xs ∧ xs[i]? = some x,
   fun i H v H' => ∃ T x, v = .ref T ∧ H T = none ∧ H' = upd H T (.tup [.int (i : Nat), x]) ∧ ∀ xs, SqT K H a xs → xs[i]? = some x,
   fun i H => ∃ xs : List V, SqT K H a xs ∧ xs.length = i⟩
theorem turn_enumT {P : Program} {w : World} {K : PySem.W.Frag} {elts : List Expr} {kk : Nat} {tpos : Pos} (a e it : Addr) :
    Turn P w K (.Tuple elts kk tpos) (ItenT K a) [e, it] e (fun i h => (∃ old, IsEnum h e it ((i : Nat) : Int) old) ∧ h.IsTupleIter it a i ∧ e ≠ it ∧ a ≠ it ∧ a ≠ e) where
  mem := by simp
  obj := fun i h st b hb => by
    obtain ⟨⟨old, he⟩, ⟨o, ho, hc, hd⟩, _⟩ := st
    have e' : b = e ∨ b = it := by simpa using hb
    rcases e' with z | z
    · rw [z]; exact ⟨_, he, fun v q => nomatch q⟩
    · rw [z]; exact ⟨o, ho, fun v q => by rw [hd] at q; cases q⟩
  keep := fun i h h' st k => by
    obtain ⟨⟨old, he⟩, hi, hne⟩ := st
    exact ⟨⟨old, k e (by simp) _ he⟩, hi.at fun o q => k it (by simp) o q, hne⟩
  item := by
    intro X hP hw hK hc i pins s σ H E I hf st hg
    subst hP hw hK
    obtain ⟨⟨old, he⟩, hit, hne, hai, hae⟩ := st
    obtain ⟨xs, x, hq, hx⟩ := hg
    obtain ⟨its, rv, p, hz⟩ := I.tuple hq
    obtain ⟨u, hu, ru⟩ := rv.get hx
    have hel : e < s.heap.objs.size := Heap.lt_size he
    have hil : it < s.heap.objs.size := by obtain ⟨_, q, _⟩ := hit; exact Heap.lt_size q
    have D := Draws.tuple (prog := X.prog) (w := X.w) (A := X.A.in1) (I.ok.hd hc) it a hai its.toArray
    have hi : i < its.toArray.size := by simpa using (List.getElem?_eq_some_iff.mp hu).1
    refine wpAny_pyNext_enum_itemD D he ⟨hit, p⟩ hi hne (by simp [hne, Ne.symm hae]) fun v h' tk hv ho hs' hT hsz hk => ?_
    have ev : v = u := by
      rw [List.getElem?_toArray, hu] at hv
      exact (Option.some.inj hv).symm
    subst ev
    refine ⟨_, rfl, wpAny_letOwnedTupleGo_enum (s := { s with heap := h', toks := tk + 1 }) ho fun h'' he' sb => ?_⟩
    have hT2 : h''.get? s.heap.objs.size = some { cls := .type "tuple", data := .seq #[.int i tk, v] } := (sb.2 _ (Nat.ne_of_gt hel)).trans hT
    have new : ObjOk X.prog X.w (upd H s.heap.objs.size (.tup [.int (i : Nat), x])) h'' s.heap.objs.size (.tup [.int (i : Nat), x]) :=
      ⟨by show 2 ≤ sizeLine; decide, [.int i tk, v], .cons ⟨_, rfl⟩ (.cons ru .nil), ⟨_, hT2, rfl, _, rfl⟩⟩
    have I1 : Inv X pins σ (upd H s.heap.objs.size (.tup [.int (i : Nat), x])) { s with heap := h'', toks := tk + 1 } :=
      I.turnedNew (ch := [e, it]) (fun b ob hb q => (sb.2 b (fun z => hb (by simp [z]))).trans (hk b ob (fun z => hb (by simp [z])) (fun z => hb (by simp [z])) q)) hf (Nat.le_refl _) new
    refine ⟨.ref s.heap.objs.size, _, I1, rfl, ⟨_, x, rfl, I.hok.fresh (Nat.le_refl _), rfl, fun ys hy => by rw [I.tuple_inj hy hq]; exact hx⟩, ⟨⟨v, ?_⟩, hs'.1.at fun o q => (sb.2 it (Ne.symm hne)).trans q, hne, hai, hae⟩, fun b hb => ?_⟩
    · rw [show ((i + 1 : Nat) : Int) = (i : Int) + 1 by omega]; exact he'
    · have hb' : b < s.heap.objs.size := by
        rcases (show b = e ∨ b = it by simpa using hb) with z | z
        · rw [z]; exact hel
        · rw [z]; exact hil
      rw [upd_ne (Nat.ne_of_lt hb')]
      exact (hf b hb).1
  done := by
    intro X hP hw hK hc i pins s σ H E I hf st hg
    subst hP hw hK
    obtain ⟨⟨old, he⟩, hit, hne, hai, hae⟩ := st
    obtain ⟨xs, hq, hx⟩ := hg
    obtain ⟨its, rv, p, hz⟩ := I.tuple hq
    obtain ⟨f0, f1, f2, f3, f4, f5⟩ := hf it (by simp)
    have D := Draws.tuple (prog := X.prog) (w := X.w) (A := X.A.in1) (I.ok.hd hc) it a hai its.toArray
    have hl : its.toArray.size = i := by rw [List.size_toArray, ← rv.length]; exact hx
    refine wpAny_pyNext_enum_endD D he (by rw [hl]; exact ⟨hit, p⟩) fun h' eb => ⟨rfl, I.turned (t' := s.toks) (fun b o hb q => eb b o hb q) f0 f1 f3 f4 f5⟩
  self := fun A i s Q E st h => by
    obtain ⟨⟨_, he⟩, _⟩ := st
    exact wpAny_pyIter_enum he h
def iEnumT (K : PySem.W.Frag) (ta : TA) : L2.TI := fun σ H R => ta σ H fun vs H1 => ∃ a xs, vs = [.ref a] ∧ SqT K H1 a xs ∧ R (ItenT K a) H1
theorem pi_enumT {X : Cx} {e : Expr} {ta : TA} {p pos tpos : Pos} {elts : List Expr} {kk : Nat} (hg : Gl X "enumerate") (hm : X.mg "enumerate" = none) (ha : PA X [e] ta)
    (hs : starEach [e] X.env = [(false, eval e X.env)] := by rfl) : PI X (.Tuple elts kk tpos) (.Call (.Name "enumerate" p) [e] [] pos) (iEnumT X.K ta) := by
  refine ⟨fun pins s σ H R I h => ?_⟩
  refine Call_ (ld_blt I hg hm boot_enumerate (PyProof.Rows.callWith_type1 (thn (ha.run pos pins s σ H _ I h) fun us s1 ⟨vs, H1, I1, r1, q1⟩ => ?_) hs rfl))
  obtain ⟨a, xs, ex, hq, q⟩ := q1
  subst ex
  obtain ⟨u, rfl, ru⟩ := vals1 r1
  obtain rfl : u = Value.ref a := ru
  obtain ⟨its, rv, p', hz⟩ := I1.tuple hq
  have la : a < s1.heap.objs.size := by obtain ⟨o, ho, _⟩ := id p'; exact Heap.lt_size ho
  refine up_call_enum (show s1.heap.IsTuple a its.toArray from p') fun h' he hit hk => wpAny_pyIter_enum he ?_
  have I2 : Inv X pins σ H1 { s1 with heap := h' } := I1.kept (t' := s1.toks) hk
  refine ⟨s1.heap.objs.size + 1, [s1.heap.objs.size + 1, s1.heap.objs.size], _, _, H1, rfl, I2, turn_enumT a (s1.heap.objs.size + 1) s1.heap.objs.size,
    ⟨⟨.none, he⟩, hit, Nat.succ_ne_self _, Nat.ne_of_lt la, Nat.ne_of_lt (Nat.lt_succ_of_lt la)⟩, fun b hb => ?_, q⟩
  have hle : s1.heap.objs.size ≤ b := by
    rcases (show b = s1.heap.objs.size + 1 ∨ b = s1.heap.objs.size by simpa using hb) with z | z
    · rw [z]; exact Nat.le_add_right _ _
    · rw [z]; exact Nat.le_refl _
  exact I1.fpOk hle (I1.hok.fresh hle)
/-- a loop over enumerate of a tuple -/
theorem for_enumT {K : PySem.W.Frag} {a : Addr} {xs : List V} {g : L2.TG} {tb : TS} {D : Ends} {σ : L2.St} {Ha : Hp} (G : Nat → L2.St → Hp → Prop) (first : G 0 σ Ha)
    (stands : ∀ j τ Hb, G j τ Hb → SqT K Hb a xs)
    (turn : ∀ (j : Nat) (x : V) (t : Addr) (τ : L2.St) (Hb : Hp), xs[j]? = some x → G j τ Hb → Hb t = none →
      g (.ref t) τ (upd Hb t (.tup [.int (j : Nat), x])) fun τ2 Hc => tb { D with nx := G (j + 1), ct := G (j + 1), bk := D.nx } τ2 Hc)
    (last : ∀ τ Hz, G xs.length τ Hz → D.nx τ Hz) :
    ∃ W : Nat → Nat → L2.St → Hp → Prop, (∃ n, W 0 n σ Ha) ∧ ∀ j n τ Hb, W j n τ Hb →
      ((ItenT K a).stop j Hb ∧ D.nx τ Hb) ∨
      ((ItenT K a).go j Hb ∧ ∃ N : L2.St → Hp → Prop, (∀ τ' Hk, N τ' Hk → ∃ n', n' < n ∧ W (j + 1) n' τ' Hk) ∧
        ∀ v Hk, (ItenT K a).yld j Hb v Hk → g v τ Hk fun τ2 Hc => tb { D with nx := N, ct := N, bk := D.nx } τ2 Hc) := by
  refine ⟨fun j n τ Hb => n = xs.length - j ∧ j ≤ xs.length ∧ G j τ Hb, ⟨xs.length, by simp, Nat.zero_le _, first⟩, ?_⟩
  rintro j n τ Hb ⟨rfl, hj, hG⟩
  have hS := stands j τ Hb hG
  rcases Nat.lt_or_ge j xs.length with lt | ge
  · refine .inr ⟨⟨xs, xs[j], hS, List.getElem?_eq_getElem lt⟩, G (j + 1), fun τ' Hk k => ⟨xs.length - (j + 1), by omega, rfl, lt, k⟩, fun v Hk y => ?_⟩
    obtain ⟨t, x, rfl, nt, rfl, hx⟩ := y
    exact turn j x t τ Hb (hx xs hS) hG nt
  · have e : j = xs.length := by omega
    rw [e] at hG
    exact .inl ⟨⟨xs, hS, e.symm⟩, last _ _ hG⟩
end Up

set_option Elab.async false
set_option linter.all false
set_option maxRecDepth 100000
set_option maxHeartbeats 4000000
namespace K03
open PySem PySem.Spec PyProof.Rows L2 Up
abbrev pw : Program := PySem.Challenge.pw_upanddowns_k03_orders_turned
def topS (i : Nat) : Stmt := PySem.Challenge.pw_upanddowns_k03_orders_turned.main.body.getD i (.Pass ⟨0, 0, 0, 0⟩)
abbrev S_is_whole : Stmt := topS 15
abbrev N_is_whole : List Str := ["thing"]
theorem sc_is_whole : FnScope N_is_whole ["thing"] (defScope S_is_whole) := ⟨rfl, rfl, rfl, by decide +kernel, rfl, by decide +kernel, by decide +kernel⟩
abbrev S_is_whole_tuple : Stmt := topS 18
abbrev N_is_whole_tuple : List Str := ["thing", "number"]
theorem sc_is_whole_tuple : FnScope N_is_whole_tuple ["thing"] (defScope S_is_whole_tuple) := ⟨rfl, rfl, rfl, by decide +kernel, rfl, by decide +kernel, by decide +kernel⟩
abbrev S_is_order : Stmt := topS 19
abbrev N_is_order : List Str := ["thing"]
theorem sc_is_order : FnScope N_is_order ["thing"] (defScope S_is_order) := ⟨rfl, rfl, rfl, by decide +kernel, rfl, by decide +kernel, by decide +kernel⟩
abbrev S_need_order : Stmt := topS 20
abbrev N_need_order : List Str := ["thing"]
theorem sc_need_order : FnScope N_need_order ["thing"] (defScope S_need_order) := ⟨rfl, rfl, rfl, by decide +kernel, rfl, by decide +kernel, by decide +kernel⟩
abbrev S_turned_over : Stmt := topS 21
abbrev N_turned_over : List Str := ["order", "number"]
theorem sc_turned_over : FnScope N_turned_over ["order"] (defScope S_turned_over) := ⟨rfl, rfl, rfl, by decide +kernel, rfl, by decide +kernel, by decide +kernel⟩
abbrev S_backward : Stmt := topS 22
abbrev N_backward : List Str := ["order"]
theorem sc_backward : FnScope N_backward ["order"] (defScope S_backward) := ⟨rfl, rfl, rfl, by decide +kernel, rfl, by decide +kernel, by decide +kernel⟩
abbrev S_contrary : Stmt := topS 23
abbrev N_contrary : List Str := ["order", "number"]
theorem sc_contrary : FnScope N_contrary ["order"] (defScope S_contrary) := ⟨rfl, rfl, rfl, by decide +kernel, rfl, by decide +kernel, by decide +kernel⟩
abbrev S_law_cell_at : Stmt := topS 25
abbrev N_law_cell_at : List Str := ["_law_script", "_law_k"]
theorem sc_law_cell_at : FnScope N_law_cell_at ["_law_script", "_law_k"] (defScope S_law_cell_at) := ⟨rfl, rfl, rfl, by decide +kernel, rfl, by decide +kernel, by decide +kernel⟩
abbrev S_law_draw : Stmt := topS 26
abbrev N_law_draw : List Str := ["_law_cell", "_law_k", "_law_bound", "_law_left", "_law_j", "_law_stir"]
theorem sc_law_draw : FnScope N_law_draw ["_law_cell", "_law_k", "_law_bound"] (defScope S_law_draw) := ⟨rfl, rfl, rfl, by decide +kernel, rfl, by decide +kernel, by decide +kernel⟩
abbrev S_law_order : Stmt := topS 27
abbrev N_law_order : List Str := ["_law_cell", "_law_at", "_law_most", "_law_size", "_law_kind", "_law_found", "_law_one", "_law_spot"]
theorem sc_law_order : FnScope N_law_order ["_law_cell", "_law_at", "_law_most"] (defScope S_law_order) := ⟨rfl, rfl, rfl, by decide +kernel, rfl, by decide +kernel, by decide +kernel⟩
abbrev S_law_is_order : Stmt := topS 28
abbrev N_law_is_order : List Str := ["_law_thing", "_law_one"]
theorem sc_law_is_order : FnScope N_law_is_order ["_law_thing"] (defScope S_law_is_order) := ⟨rfl, rfl, rfl, by decide +kernel, rfl, by decide +kernel, by decide +kernel⟩
abbrev S_law_bent : Stmt := topS 29
abbrev N_law_bent : List Str := ["_law_cell", "_law_at", "_law_some", "_law_size", "_law_spot", "_law_one", "_law_odd", "_law_news", "_law_swap", "_law_other", "_law_here"]
theorem sc_law_bent : FnScope N_law_bent ["_law_cell", "_law_at", "_law_some"] (defScope S_law_bent) := ⟨rfl, rfl, rfl, by decide +kernel, rfl, by decide +kernel, by decide +kernel⟩
abbrev S_law_class : Stmt := topS 30
abbrev N_law_class : List Str := ["_law_error", "_law_kinds", "_law_words"]
theorem sc_law_class : FnScope N_law_class ["_law_error"] (defScope S_law_class) := ⟨rfl, rfl, rfl, by decide +kernel, rfl, by decide +kernel, by decide +kernel⟩
abbrev S_law_refused : Stmt := topS 31
abbrev N_law_refused : List Str := ["_law_call", "_law_word", "_law_error"]
theorem sc_law_refused : FnScope N_law_refused ["_law_call"] (defScope S_law_refused) := ⟨rfl, rfl, rfl, by decide +kernel, rfl, by decide +kernel, by decide +kernel⟩
abbrev S_law : Stmt := topS 32
abbrev N_law : List Str := ["_law_script", "_law_k", "_law_cell", "_law_some", "_law_size", "_law_other", "_law_spot", "_law_one", "_law_due", "_law_found", "_law_call", "_law_thing", "_law_j"]
theorem sc_law : FnScope N_law ["_law_script"] (defScope S_law) := ⟨rfl, rfl, rfl, by decide +kernel, rfl, by decide +kernel, by decide +kernel⟩
structure Txt (K : PySem.W.Frag) (mg : Str → Option Value) : Prop where
  d_is_whole : ∃ fd, FnT K "is_whole" S_is_whole fd
  g_is_whole : mg "is_whole" = some (.ref (He.ga K "is_whole"))
  d_is_whole_tuple : ∃ fd, FnT K "is_whole_tuple" S_is_whole_tuple fd
  g_is_whole_tuple : mg "is_whole_tuple" = some (.ref (He.ga K "is_whole_tuple"))
  d_is_order : ∃ fd, FnT K "is_order" S_is_order fd
  g_is_order : mg "is_order" = some (.ref (He.ga K "is_order"))
  d_need_order : ∃ fd, FnT K "need_order" S_need_order fd
  g_need_order : mg "need_order" = some (.ref (He.ga K "need_order"))
  d_turned_over : ∃ fd, FnT K "turned_over" S_turned_over fd
  g_turned_over : mg "turned_over" = some (.ref (He.ga K "turned_over"))
  d_backward : ∃ fd, FnT K "backward" S_backward fd
  g_backward : mg "backward" = some (.ref (He.ga K "backward"))
  d_contrary : ∃ fd, FnT K "contrary" S_contrary fd
  g_contrary : mg "contrary" = some (.ref (He.ga K "contrary"))
  d_law_cell_at : ∃ fd, FnT K "_law_cell_at" S_law_cell_at fd
  g_law_cell_at : mg "_law_cell_at" = some (.ref (He.ga K "_law_cell_at"))
  d_law_draw : ∃ fd, FnT K "_law_draw" S_law_draw fd
  g_law_draw : mg "_law_draw" = some (.ref (He.ga K "_law_draw"))
  d_law_order : ∃ fd, FnT K "_law_order" S_law_order fd
  g_law_order : mg "_law_order" = some (.ref (He.ga K "_law_order"))
  d_law_is_order : ∃ fd, FnT K "_law_is_order" S_law_is_order fd
  g_law_is_order : mg "_law_is_order" = some (.ref (He.ga K "_law_is_order"))
  d_law_bent : ∃ fd, FnT K "_law_bent" S_law_bent fd
  g_law_bent : mg "_law_bent" = some (.ref (He.ga K "_law_bent"))
  d_law_class : ∃ fd, FnT K "_law_class" S_law_class fd
  g_law_class : mg "_law_class" = some (.ref (He.ga K "_law_class"))
  d_law_refused : ∃ fd, FnT K "_law_refused" S_law_refused fd
  g_law_refused : mg "_law_refused" = some (.ref (He.ga K "_law_refused"))
  d_law : ∃ fd, FnT K "law" S_law fd
  g_law : mg "law" = some (.ref (He.ga K "law"))
  n_isinstance : mg "isinstance" = none
  n_int : mg "int" = none
  n_bool : mg "bool" = none
  n_len : mg "len" = none
  n_range : mg "range" = none
  n_list : mg "list" = none
  n_tuple : mg "tuple" = none
  n_all : mg "all" = none
  n_sorted : mg "sorted" = none
  n_max : mg "max" = none
  n_min : mg "min" = none
  n_str : mg "str" = none
  n_enumerate : mg "enumerate" = none
  n_ValueError : mg "ValueError" = none
  c_MOST : ∃ t, mg "MOST" = some (.int 40 t)
  g_TurnError : mg "TurnError" = some (.ref (He.ga K "TurnError"))
  g_NoOrder : mg "NoOrder" = some (.ref (He.ga K "NoOrder"))
  g_NoNumber : mg "NoNumber" = some (.ref (He.ga K "NoNumber"))
  g_NoRow : mg "NoRow" = some (.ref (He.ga K "NoRow"))
  g_NotUpDown : mg "NotUpDown" = some (.ref (He.ga K "NotUpDown"))
  g_NoPattern : mg "NoPattern" = some (.ref (He.ga K "NoPattern"))
  g_NoTree : mg "NoTree" = some (.ref (He.ga K "NoTree"))
  g_NoLoose : mg "NoLoose" = some (.ref (He.ga K "NoLoose"))
  g_NoRing : mg "NoRing" = some (.ref (He.ga K "NoRing"))
  g_NoFraction : mg "NoFraction" = some (.ref (He.ga K "NoFraction"))
  g_NoText : mg "NoText" = some (.ref (He.ga K "NoText"))
  g_NoDeed : mg "NoDeed" = some (.ref (He.ga K "NoDeed"))
  g_NoLine : mg "NoLine" = some (.ref (He.ga K "NoLine"))
  x_NoOrder : PySem.W.excIn K (He.ga K "NoOrder") He.veBase "ValueError.__new__" = true
  k_NoOrder : PySem.W.keepIn K (.ref (He.ga K "NoOrder")) = true
  b_NoOrder : PySem.W.subIn K (.ref (He.ga K "NoOrder")) (.type "BaseException") = some true
  t_NoOrder : PySem.W.typeIn K (.ref (He.ga K "NoOrder")) = some (.type "type")
  j_NoOrder : ClassIs K (He.ga K "NoOrder") 0
  sep : (He.cT K ("law", none)).2 ∉ [(He.cT K ("is_whole_tuple", none)).2, (He.cT K ("turned_over", none)).2, (He.cT K ("contrary", none)).2]
section
variable {P : Program} {w : World} {K : PySem.W.Frag} {mg : Str → Option Value} {base : Heap}
structure TBs (K : PySem.W.Frag) (mg : Str → Option Value) (base : Heap) : Prop where
  is_whole_tuple : LamX.TabB base mg (He.cT K ("is_whole_tuple", none)).1 (He.cT K ("is_whole_tuple", none)).2
  turned_over : LamX.TabB base mg (He.cT K ("turned_over", none)).1 (He.cT K ("turned_over", none)).2
  contrary : LamX.TabB base mg (He.cT K ("contrary", none)).1 (He.cT K ("contrary", none)).2
def Ps (K : PySem.W.Frag) : List Addr := [(He.cT K ("is_whole_tuple", none)).2, (He.cT K ("turned_over", none)).2, (He.cT K ("contrary", none)).2]
theorem mem_is_whole_tuple (K : PySem.W.Frag) : (He.cT K ("is_whole_tuple", none)).2 ∈ Ps K := by unfold Ps; simp
theorem mem_turned_over (K : PySem.W.Frag) : (He.cT K ("turned_over", none)).2 ∈ Ps K := by unfold Ps; simp
theorem mem_contrary (K : PySem.W.Frag) : (He.cT K ("contrary", none)).2 ∈ Ps K := by unfold Ps; simp

theorem ok_is_whole (T : Txt K mg) : DefOk P w K mg base CX0 1 "is_whole" ["thing"] (spWhole K) := by
  refine def_of T.d_is_whole T.g_is_whole (fun _ _ _ _ _ _ us hl => match us, hl with | [_], _ => rfl) fun fd F => ?_
  refine F.ok sc_is_whole (fun vs H Q E h => ?_) (fun cdv A outer s H vs Q E hr h => ?_)
  · obtain ⟨x, b, rfl, _⟩ := h; rfl
  · obtain ⟨x, b, rfl, hT, q⟩ := h
    obtain ⟨ty, hty, hm, hb⟩ := hT.ex
    refine ⟨_, PSs.nox (pss_one (ps_ret (pe_and (pe_callB (isiK K) (by rfl) T.n_isinstance (by decide +kernel) (pa_cons (pv 0) (pa_cons (pe_bltn (v := .ty "int") (u := .type "int") (by rfl) T.n_int (by decide +kernel) rfl) pa_nil))) (pe_one (pe_not (pe_callB (isiK K) (by rfl) T.n_isinstance (by decide +kernel) (pa_cons (pv 0) (pa_cons (pe_bltn (v := .ty "bool") (u := .type "bool") (by rfl) T.n_bool (by decide +kernel) rfl) pa_nil)))))))), ?_⟩
    refine ⟨_, rfl, _, _, _, _, _, rfl, .ty "int", hty, kit_ty (kit_int ty hm), _, rfl, ite2 (fun c => ?_) (fun c => ?_)⟩
    · refine ⟨_, rfl, _, _, _, _, _, rfl, .ty "bool", hty, kit_ty (kit_bool ty hm), _, rfl, ?_⟩
      have e : (!(ty == "bool")) = b := by
        rw [← hb]; exact kit_whole ty hm c
      rw [e]; exact q
    · have e : (ty == "int" || ty == "bool") = false := by simpa using c
      have e2 : b = false := by rw [← hb]; rw [Bool.or_eq_false_iff] at e; exact e.1
      rw [e2] at q; exact q

def spThing (K : PySem.W.Frag) (f : Option (List (Option Int)) → Bool) : Sp := fun vs H Q _ => ∃ (x : V) (d : Option (List (Option Int))), vs = [x] ∧ TD K H x d ∧ TG (Ps K) H ∧ ∀ H', Go (Ps K) H H' → Q (.bl (f d)) H'
theorem ok_is_whole_tuple (T : Txt K mg) (B : TBs K mg base) : DefOk P w K mg base CX0 2 "is_whole_tuple" ["thing"] (spThing K wholeB) := by
  have TB0 := B.is_whole_tuple
  refine def_of T.d_is_whole_tuple T.g_is_whole_tuple (fun _ _ _ _ _ _ us hl => match us, hl with | [_], _ => rfl) fun fd F => ?_
  obtain ⟨oc, od, dV, kV, doc, pm, an, cdv, ct, osl, rfl, lk, hcd, _, _⟩ := F.ex
  obtain ⟨c0, rfl⟩ := He.codeIn_ref hcd
  have ec : He.codeOf K ("is_whole_tuple", none) = c0 := He.codeOf_eq lk rfl
  have eC : (He.cT K ("is_whole_tuple", none)).1 = c0 := ec
  rw [eC] at TB0
  have TB := tab_of TB0
  generalize ePt : (He.cT K ("is_whole_tuple", none)).2 = Pt at *
  have hPt : Pt ∈ Ps K := ePt ▸ mem_is_whole_tuple K
  refine fn_of lk hcd sc_is_whole_tuple (fun vs H Q E h => ?_) (fun A outer s H vs Q E hr h => ?_)
  · obtain ⟨x, d, rfl, _⟩ := h; rfl
  · obtain ⟨x, d, rfl, hT, tg, q⟩ := h
    have hcode : (envOfC "is_whole_tuple" (defScope S_is_whole_tuple) s.heap.objs.size (He.ga K "is_whole_tuple") (.ref c0)).code = .ref c0 := rfl
    obtain ⟨fdW, FW⟩ := T.d_is_whole
    have hbW := fun (kV doc pm : Value) (an : Option Addr) (cdv ct : Value) (us : List Value) (hl : us.length = 1) => ((fun _ _ _ _ _ _ us hl => match us, hl with | [_], _ => rfl) : ∀ (kV doc pm : Value) (an : Option Addr) (cdv ct : Value) (us : List Value), us.length = 1 → bindArgs (PySem.W.fnOf "is_whole" "is_whole" (defArgs S_is_whole) (defBody S_is_whole) (defScope S_is_whole) .none kV doc pm an cdv ct) ⟨us, []⟩ = pure ((["thing"] : List Str).zip us)) kV doc pm an cdv ct us hl
    refine ⟨_, PSs.nox (pss_cons (ps_if (pt_not (pt_val (pe_callB (isiK K) (by rfl) T.n_isinstance (by decide +kernel) (pa_cons (pv 0) (pa_cons (pe_bltn (v := .ty "tuple") (u := .type "tuple") (by rfl) T.n_tuple (by decide +kernel) rfl) pa_nil))))) (pss_one (ps_ret pe_bl)) pss_nil)
 (pss_cons (ps_if (PW.pt (pw_or (pt_cmpR op_lt (pe_callB (lenK K) (by rfl) T.n_len boot_len (pa_cons (pv 0) pa_nil)) pe_int (nomark _)) (pw_or1 (pt_cmpR op_gt (pe_callB (lenK K) (by rfl) T.n_len boot_len (pa_cons (pv 0) pa_nil)) (pe_glob (v := .int 40) rfl T.c_MOST.choose_spec ⟨_, rfl⟩) (nomark _))))) (pss_one (ps_ret pe_bl)) pss_nil)
 (pss_one (ps_ret (pe_allW hr (by rfl) T.n_all TB hcode (genS_by (show genSB (defScope S_is_whole_tuple) _ "number" = true by decide +kernel)) (pv 0) (fun _ => rfl) FW sc_is_whole rfl hbW (by rfl) (by rfl) (by rfl) (by rfl) T.n_isinstance T.n_int T.n_bool T.g_is_whole (by decide +kernel)))))), ?_⟩
    obtain ⟨ty, hty, hk⟩ := hT.kind
    refine ⟨_, rfl, _, _, _, _, _, rfl, .ty "tuple", hty, hk, _, rfl, ?_⟩
    cases hT with
    | other t m n => exact iteT (q _ (Go.refl tg))
    | @tup a xs ws hS hn h100 hit =>
      refine iteF ?_
      refine ⟨_, rfl, a, _, rfl, .inr hS, _, _, rfl, rfl, _, rfl, ite2 (fun c => ?_) (fun c => ?_)⟩
      · refine iteT ?_
        have e : wholeB (some ws) = false := by
          have := of_decide_eq_true c
          show (decide (1 ≤ ws.length) && _) = false
          rw [decide_eq_false (by omega)]; rfl
        rw [← e]
        exact q _ (Go.refl tg)
      · have c1 := of_decide_eq_false (Bool.eq_false_iff.mpr c)
        refine ⟨_, rfl, a, _, rfl, .inr hS, _, _, rfl, rfl, _, rfl, ite2 (fun c => ?_) (fun c => ?_)⟩
        · have e : wholeB (some ws) = false := by
            have := of_decide_eq_true c
            show (decide (1 ≤ ws.length) && (decide (ws.length ≤ 40) && ws.all (·.isSome))) = false
            rw [decide_eq_false (show ¬ ws.length ≤ 40 by omega), Bool.false_and, Bool.and_false]
          rw [← e]
          exact q _ (Go.refl tg)
        · have c2 := of_decide_eq_false (Bool.eq_false_iff.mpr c)
          refine ⟨_, rfl, tg _ hPt, a, xs, ws.map (·.isSome), rfl, hS, by rw [List.length_map]; exact hn.symm, fun i y hy => ?_, fun H2 ht => ?_⟩
          · have hi : i < ws.length := by rw [← hn]; exact (List.getElem?_eq_some_iff.mp hy).1
            exact ⟨ws[i].isSome, by rw [List.getElem?_map, List.getElem?_eq_getElem hi]; rfl, (hit i y _ hy (List.getElem?_eq_getElem hi)).whole (tg _ hPt)⟩
          · have e : (ws.map (·.isSome)).all id = wholeB (some ws) := by
              show _ = (decide (1 ≤ ws.length) && (decide (ws.length ≤ 40) && ws.all (·.isSome)))
              rw [decide_eq_true (show 1 ≤ ws.length by omega), decide_eq_true (show ws.length ≤ 40 by omega), List.all_map]; rfl
            rw [e]
            exact q H2 ((Go.refl tg).tabbed (tg _ hPt) ht)

theorem ok_is_order (T : Txt K mg) (B : TBs K mg base) : DefOk P w K mg base CX0 3 "is_order" ["thing"] (spThing K ordB) := by
  have D_is_whole_tuple : DefOk P w K mg base CX0 2 "is_whole_tuple" ["thing"] (spThing K wholeB) := ok_is_whole_tuple T B
  refine def_of T.d_is_order T.g_is_order (fun _ _ _ _ _ _ us hl => match us, hl with | [_], _ => rfl) fun fd F => ?_
  refine F.ok sc_is_order (fun vs H Q E h => ?_) (fun cdv A outer s H vs Q E hr h => ?_)
  · obtain ⟨x, d, rfl, _⟩ := h; rfl
  · obtain ⟨x, d, rfl, hT, tg, q⟩ := h
    refine ⟨_, PSs.nox (pss_cons (ps_if (pt_not (pt_val (pe_callD D_is_whole_tuple hr (by rfl) pass0 (pa_cons (pv 0) pa_nil)))) (pss_one (ps_ret pe_bl)) pss_nil)
 (pss_one (ps_ret (pe_cmpR (eqDK K hr.units) (pe_callB (sortedTupK K) (by rfl) T.n_sorted (by decide +kernel) (pa_cons (pv 0) pa_nil)) (pe_listRg rfl (by rfl) T.n_list (prg_2 (by rfl) T.n_range pe_int (pe_op op_add (pe_callB (lenK K) (by rfl) T.n_len boot_len (pa_cons (pv 0) pa_nil)) pe_int))) (nomark _))))), ?_⟩
    refine ⟨_, rfl, x, d, rfl, hT, tg, fun H1 g1 => ⟨_, rfl, ?_⟩⟩
    have hT1 := hT.ext g1.ext
    cases hw : wholeB d with
    | false =>
      refine iteT ?_
      have e : ordB d = false := by unfold ordB; rw [hw]; rfl
      rw [← e]
      exact q _ g1
    | true =>
      refine iteF ?_
      obtain ⟨ws, rfl⟩ : ∃ ws, d = some ws := by
        cases d with
        | none => cases hw
        | some ws => exact ⟨ws, rfl⟩
      obtain ⟨w1, w2, w3⟩ := wholeB_some hw
      obtain ⟨a, rfl, hS1⟩ := hT1.ints w3
      have eb : ordB (some ws) = permB (ws.map (·.getD 0)) := by
        show (wholeB (some ws) && permB (ws.map (·.getD 0))) = _
        rw [hw]; rfl
      have ln : (ws.map (·.getD 0)).length = ws.length := List.length_map ..
      generalize ws.map (·.getD 0) = l at *
      refine ⟨_, rfl, a, l, rfl, hS1, fun ms p pm pw np => ?_⟩
      have sp := same_new (o := .lst (ms.map V.int)) np
      have hS2 := ext_sqt (Same.ext sp) hS1
      have hl : (l.map V.int).length = l.length := List.length_map ..
      refine ⟨_, rfl, a, _, rfl, .inr hS2, _, _, rfl, rfl, _, _, rfl, rfl, ?_⟩
      rw [hl]
      refine ⟨RgOk.of_le (by decide) (by omega) (by decide) (by omega), fun r nr => ?_⟩
      have sr := same_new (o := .lst (rgV 1 ((l.length : Int) + 1))) nr
      rw [rg_eq] at sr ⊢
      refine eq_ints (a := ms) (b := rng l.length) (dp_list (SqL.of (sr _ _ upd_same))) (dp_list (SqL.of upd_same)) ?_
      rw [sorted_perm pm pw, ← eb]
      exact q _ ((g1.same sp).same sr)

def spNeedOrd (K : PySem.W.Frag) (C : Addr) : Sp := fun vs H Q E => ∃ (x : V) (d : Option (List (Option Int))), vs = [x] ∧ TD K H x d ∧ TG (Ps K) H ∧ (ordB d = true → ∀ H', Go (Ps K) H H' → Q .non H') ∧ (ordB d = false → ∀ H', Go (Ps K) H H' → E (.ref C) none H')
theorem ok_need_order (T : Txt K mg) (B : TBs K mg base) : DefOk P w K mg base (L2.CX P w) 4 "need_order" ["thing"] (spNeedOrd K (He.ga K "NoOrder")) := by
  have D_is_order : DefOk P w K mg base CX0 3 "is_order" ["thing"] (spThing K ordB) := ok_is_order T B
  refine def_of T.d_need_order T.g_need_order (fun _ _ _ _ _ _ us hl => match us, hl with | [_], _ => rfl) fun fd F => ?_
  refine F.ok sc_need_order (fun vs H Q E h => ?_) (fun cdv A outer s H vs Q E hr h => ?_)
  · obtain ⟨x, d, rfl, _⟩ := h; rfl
  · obtain ⟨x, d, rfl, hT, tg, kY, kN⟩ := h
    refine ⟨_, (pss_one (ps_if (pt_not (pt_val (pe_callD D_is_order hr (by rfl) pass0 (pa_cons (pv 0) pa_nil)))) (pss_one (ps_raise rfl (takes_of rfl rfl rfl rfl) (pmk_own PySem.F.excBase_ValueError T.x_NoOrder T.g_NoOrder T.k_NoOrder (raises_own T.b_NoOrder T.t_NoOrder) (by exact rfl)))) pss_nil)), ?_⟩
    refine ⟨_, rfl, x, d, rfl, hT, tg, fun H1 g1 => ⟨_, rfl, ?_⟩⟩
    cases hw : ordB d with
    | true => exact iteF (kY hw _ g1)
    | false => exact iteT (kN hw _ g1)

def spTurn (K : PySem.W.Frag) (C : Addr) (f : List Int → List Int) : Sp := fun vs H Q E =>
  (∃ (a : Addr) (l : List Int), vs = [.ref a] ∧ Zt H a l ∧ Ord l ∧ TG (Ps K) H ∧ ∀ H' p, Go (Ps K) H H' → SqT K H' p ((f l).map V.int) → Q (.ref p) H') ∨
  (∃ (x : V) (d : Option (List (Option Int))), vs = [x] ∧ TD K H x d ∧ ordB d = false ∧ TG (Ps K) H ∧ ∀ H', Go (Ps K) H H' → E (.ref C) none H')
theorem ok_turned_over (T : Txt K mg) (B : TBs K mg base) : DefOk P w K mg base (L2.CX P w) 5 "turned_over" ["order"] (spTurn K (He.ga K "NoOrder") overL) := by
  have D_need_order : DefOk P w K mg base (L2.CX P w) 4 "need_order" ["thing"] (spNeedOrd K (He.ga K "NoOrder")) := ok_need_order T B
  have TB0 := B.turned_over
  refine def_of T.d_turned_over T.g_turned_over (fun _ _ _ _ _ _ us hl => match us, hl with | [_], _ => rfl) fun fd F => ?_
  obtain ⟨oc, od, dV, kV, doc, pm, an, cdv, ct, osl, rfl, lk, hcd, _, _⟩ := F.ex
  obtain ⟨c0, rfl⟩ := He.codeIn_ref hcd
  have ec : He.codeOf K ("turned_over", none) = c0 := He.codeOf_eq lk rfl
  have eC : (He.cT K ("turned_over", none)).1 = c0 := ec
  rw [eC] at TB0
  have TB := tab_of TB0
  generalize ePt : (He.cT K ("turned_over", none)).2 = Pt at *
  have hPt : Pt ∈ Ps K := ePt ▸ mem_turned_over K
  refine fn_of lk hcd sc_turned_over (fun vs H Q E h => ?_) (fun A outer s H vs Q E hr h => ?_)
  · rcases h with ⟨a, l, rfl, _⟩ | ⟨x, d, rfl, _⟩ <;> rfl
  · have hcode : (envOfC "turned_over" (defScope S_turned_over) s.heap.objs.size (He.ga K "turned_over") (.ref c0)).code = .ref c0 := rfl
    refine ⟨_, (pss_cons (ps_expr (pe_callD (E := E) D_need_order hr (by rfl) (passOut (takes_of rfl rfl rfl rfl)) (pa_cons (pv 0) pa_nil)))
 (pss_one (ps_ret (pe_tupG hr (by rfl) T.n_tuple TB hcode (genS_by (show genSB (defScope S_turned_over) _ "number" = true by decide +kernel)) (pv 0) (ple_sub (ple_add (ple_len (ple_free 0 (genS_by (show genSB (defScope S_turned_over) _ "number" = true by decide +kernel)) (by rfl) (by rfl) (by rfl)) (by rfl) (by rfl) T.n_len) ple_int) (ple_item (by rfl) (by rfl))) (fun _ => rfl))))), ?_⟩
    rcases h with ⟨a, l, rfl, hZ, o, tg, q⟩ | ⟨x, d, rfl, hT, no, tg, kN⟩
    · refine ⟨_, rfl, .ref a, some (l.map some), rfl, TD.of hZ.sq (by have := o.few; omega), tg, fun _ H1 g1 => ?_, (fun no => by rw [ordB_of o] at no; cases no)⟩
      have hZ1 := hZ.ext g1.ext
      have hS1 : SqT K H1 a (l.map V.int) := hZ1.sq
      have hl : (l.map V.int).length = l.length := List.length_map ..
      have hfew := o.few
      refine ⟨_, rfl, g1.tab _ hPt, a, l.map V.int, fun i => .int ((l.length : Int) + 1 - l.getD i 0), rfl, hS1, fun i w hw => ?_, fun H2 p ob d ht np => ?_⟩
      · obtain ⟨z, hz, rfl⟩ := get_ints hw
        have ez : l.getD i 0 = z := by rw [List.getD_eq_getElem?_getD, hz]; rfl
        refine ⟨_, _, ⟨_, _, ⟨a, _, rfl, hS1, rfl⟩, rfl, rfl⟩, rfl, ?_⟩
        show V.int ((l.length : Int) + 1 - l.getD i 0) = V.int (((l.map V.int).length : Int) + 1 - z)
        rw [ez, hl]
      · have g2 := g1.tabbed (g1.tab _ hPt) ht
        rw [hl, range_get]
        exact q _ p (g2.same (same_new np)) (.inl (.inr ⟨ob, upd_same⟩))
    · exact ⟨_, rfl, x, d, rfl, hT, tg, (fun ok => by rw [no] at ok; cases ok), fun _ H1 g1 => kN _ g1⟩

theorem ok_backward (T : Txt K mg) (B : TBs K mg base) : DefOk P w K mg base (L2.CX P w) 5 "backward" ["order"] (spTurn K (He.ga K "NoOrder") List.reverse) := by
  have D_need_order : DefOk P w K mg base (L2.CX P w) 4 "need_order" ["thing"] (spNeedOrd K (He.ga K "NoOrder")) := ok_need_order T B
  refine def_of T.d_backward T.g_backward (fun _ _ _ _ _ _ us hl => match us, hl with | [_], _ => rfl) fun fd F => ?_
  refine F.ok sc_backward (fun vs H Q E h => ?_) (fun cdv A outer s H vs Q E hr h => ?_)
  · rcases h with ⟨a, l, rfl, _⟩ | ⟨x, d, rfl, _⟩ <;> rfl
  · skip
    refine ⟨_, (pss_cons (ps_expr (pe_callD (E := E) D_need_order hr (by rfl) (passOut (takes_of rfl rfl rfl rfl)) (pa_cons (pv 0) pa_nil)))
 (pss_one (ps_ret (revTK K (pv 0))))), ?_⟩
    rcases h with ⟨a, l, rfl, hZ, o, tg, q⟩ | ⟨x, d, rfl, hT, no, tg, kN⟩
    · refine ⟨_, rfl, .ref a, some (l.map some), rfl, TD.of hZ.sq (by have := o.few; omega), tg, fun _ H1 g1 => ?_, (fun no => by rw [ordB_of o] at no; cases no)⟩
      have hZ1 := hZ.ext g1.ext
      have hS1 : SqT K H1 a (l.map V.int) := hZ1.sq
      have hl : (l.map V.int).length = l.length := List.length_map ..
      have hfew := o.few
      refine ⟨_, rfl, a, _, rfl, hS1, fun p np => ?_⟩
      exact q _ p (g1.same (same_new np)) (SqT.of (by rw [upd_same, List.map_reverse]))
    · exact ⟨_, rfl, x, d, rfl, hT, tg, (fun ok => by rw [no] at ok; cases ok), fun _ H1 g1 => kN _ g1⟩

theorem ok_contrary (T : Txt K mg) (B : TBs K mg base) : DefOk P w K mg base (L2.CX P w) 5 "contrary" ["order"] (spTurn K (He.ga K "NoOrder") conL) := by
  have D_need_order : DefOk P w K mg base (L2.CX P w) 4 "need_order" ["thing"] (spNeedOrd K (He.ga K "NoOrder")) := ok_need_order T B
  have TB0 := B.contrary
  refine def_of T.d_contrary T.g_contrary (fun _ _ _ _ _ _ us hl => match us, hl with | [_], _ => rfl) fun fd F => ?_
  obtain ⟨oc, od, dV, kV, doc, pm, an, cdv, ct, osl, rfl, lk, hcd, _, _⟩ := F.ex
  obtain ⟨c0, rfl⟩ := He.codeIn_ref hcd
  have ec : He.codeOf K ("contrary", none) = c0 := He.codeOf_eq lk rfl
  have eC : (He.cT K ("contrary", none)).1 = c0 := ec
  rw [eC] at TB0
  have TB := tab_of TB0
  generalize ePt : (He.cT K ("contrary", none)).2 = Pt at *
  have hPt : Pt ∈ Ps K := ePt ▸ mem_contrary K
  refine fn_of lk hcd sc_contrary (fun vs H Q E h => ?_) (fun A outer s H vs Q E hr h => ?_)
  · rcases h with ⟨a, l, rfl, _⟩ | ⟨x, d, rfl, _⟩ <;> rfl
  · have hcode : (envOfC "contrary" (defScope S_contrary) s.heap.objs.size (He.ga K "contrary") (.ref c0)).code = .ref c0 := rfl
    refine ⟨_, (pss_cons (ps_expr (pe_callD (E := E) D_need_order hr (by rfl) (passOut (takes_of rfl rfl rfl rfl)) (pa_cons (pv 0) pa_nil)))
 (pss_one (ps_ret (pe_tupR hr (by rfl) T.n_tuple (by rfl) T.n_range TB hcode (genS_by (show genSB (defScope S_contrary) _ "number" = true by decide +kernel)) (pa_cons pe_int (pa_cons (pe_op op_add (pe_callB (lenK K) (by rfl) T.n_len boot_len (pa_cons (pv 0) pa_nil)) pe_int) pa_nil)) (ple_add (ple_tix (ple_free 0 (genS_by (show genSB (defScope S_contrary) _ "number" = true by decide +kernel)) (by rfl) (by rfl) (by rfl)) (ple_item (by rfl) (by rfl))) ple_int) (fun _ => rfl))))), ?_⟩
    rcases h with ⟨a, l, rfl, hZ, o, tg, q⟩ | ⟨x, d, rfl, hT, no, tg, kN⟩
    · refine ⟨_, rfl, .ref a, some (l.map some), rfl, TD.of hZ.sq (by have := o.few; omega), tg, fun _ H1 g1 => ?_, (fun no => by rw [ordB_of o] at no; cases no)⟩
      have hZ1 := hZ.ext g1.ext
      have hS1 : SqT K H1 a (l.map V.int) := hZ1.sq
      have hl : (l.map V.int).length = l.length := List.length_map ..
      have hfew := o.few
      refine ⟨_, rfl, a, _, rfl, .inr hS1, _, _, rfl, rfl, 1, (l.length : Int) + 1, by rw [hl], ⟨by decide, by decide, by omega, by omega⟩, ?_, g1.tab _ hPt, fun i => .int (((idxN (1 + (i : Int)) l : Nat) : Int) + 1), fun i hi => ?_, fun H2 p ob d ht np => ?_⟩
      · have : ((l.length : Int) + 1 - 1).toNat = l.length := by omega
        rw [this]; exact sz' (by omega)
      · obtain ⟨ob, d, e⟩ := hZ1
        obtain ⟨i1, i2⟩ := idxN_at (x := 1 + (i : Int)) (s := l) (o.mem.mpr ⟨by omega, by omega⟩)
        exact ⟨_, _, ⟨a, ob, l, _, _, rfl, d, e, rfl, i1, i2, rfl⟩, rfl, rfl⟩
      · have g2 := g1.tabbed (g1.tab _ hPt) ht
        have en : ((l.length : Int) + 1 - 1).toNat = l.length := by omega
        rw [en, range_rng l.length fun x => ((idxN x l : Nat) : Int) + 1]
        exact q _ p (g2.same (same_new np)) (.inl (.inr ⟨ob, upd_same⟩))
    · exact ⟨_, rfl, x, d, rfl, hT, tg, (fun ok => by rw [no] at ok; cases ok), fun _ H1 g1 => kN _ g1⟩

theorem ok_law_cell_at (T : Txt K mg) : DefOk P w K mg base CX0 1 "_law_cell_at" ["_law_script", "_law_k"] (spCellAt K) := by
  refine def_of T.d_law_cell_at T.g_law_cell_at (fun _ _ _ _ _ _ us hl => match us, hl with | [_, _], _ => rfl) fun fd F => ?_
  refine F.ok sc_law_cell_at (fun vs H Q E h => ?_) (fun cdv A outer s H vs Q E hr h => ?_)
  · obtain ⟨a, ns, i, rfl, _⟩ := h; rfl
  · obtain ⟨a, ns, i, rfl, hS, q⟩ := h
    refine ⟨_, PSs.nox (pss_cons (ps_if (pt_cmpR op_lt (pv 1) (pe_callB (lenK K) (by rfl) T.n_len boot_len (pa_cons (pv 0) pa_nil)) (nomark _)) (pss_one (ps_ret (pe_ix (ixLK K) (pv 0) (pv 1) (fun _ _ => rfl)))) pss_nil)
 (pss_one (ps_ret pe_int))), ?_⟩
    refine ⟨_, rfl, _, rfl, _, _, rfl, .inl hS, _, _, rfl, rfl, _, rfl, ite2 (fun c => ?_) (fun c => ?_)⟩
    · have c := of_decide_eq_true c
      rw [List.length_map] at c
      have hi : i < ns.length := by omega
      refine ⟨_, rfl, _, rfl, a, _, _, _, rfl, rfl, hS, atI_nat (j := i) (v := .int ns[i]) (by rw [List.getElem?_map, List.getElem?_eq_getElem hi]; rfl), q _⟩
    · exact q _

theorem ok_law_draw (T : Txt K mg) : DefOk P w K mg base CX0 1 "_law_draw" ["_law_cell", "_law_k", "_law_bound"] spDraw := by
  refine def_of T.d_law_draw T.g_law_draw (fun _ _ _ _ _ _ us hl => match us, hl with | [_, _, _], _ => rfl) fun fd F => ?_
  refine F.ok sc_law_draw (fun vs H Q E h => ?_) (fun cdv A outer s H vs Q E hr h => ?_)
  · obtain ⟨c, k, b, rfl, _⟩ := h; rfl
  · obtain ⟨c, k, b, rfl, k0, k1, b0, b1, q⟩ := h
    refine ⟨_, PSs.nox (pss_cons (ps_if (pt_cmpR op_ge (pv 0) (pe_op op_pow pe_int pe_int) (nomark _)) (pss_cons (ps_set (i := 3) sc_law_draw.nd rfl (Or.inl rfl) (pv 0))
 (pss_cons (ps_for PassesOwn.never rfl (pi_range1 (by rfl) T.n_range (pa_cons (pv 1) pa_nil)) (pg_name (i := 4) sc_law_draw.nd rfl (Or.inl rfl)) (pss_cons (ps_if (pt_cmpR op_eq (pv 3) pe_int (nomark _)) (pss_one (ps_ret pe_int)) pss_nil)
 (pss_one (ps_set (i := 3) sc_law_draw.nd rfl (Or.inl rfl) (pe_op op_fdiv (pv 3) (pv 2))))))
 (pss_one (ps_ret (pe_op op_mod (pv 3) (pv 2)))))) pss_nil)
 (pss_cons (ps_set (i := 5) sc_law_draw.nd rfl (Or.inl rfl) (pe_op op_mod (pe_op op_mul (pe_op op_add (pe_op op_add (pe_op op_mod (pv 0) pe_int) (pe_op op_mul pe_int (pv 1))) pe_int) pe_int) pe_int))
 (pss_cons (ps_set (i := 5) sc_law_draw.nd rfl (Or.inl rfl) (pe_op op_mod (pe_op op_add (pe_op op_add (pe_op op_mul (pv 5) (pv 5)) (pe_op op_mul pe_int (pv 1))) pe_int) pe_int))
 (pss_one (ps_ret (pe_op op_mod (pe_op op_fdiv (pe_op op_mod (pe_op op_mul (pv 5) pe_int) pe_int) pe_int) (pv 2))))))), ?_⟩
    have rng : ∀ z : Int, 0 ≤ z % b ∧ z % b < b := fun z => ⟨Int.emod_nonneg z (by omega), Int.emod_lt_of_pos z (by omega)⟩
    refine ⟨_, rfl, _, _, rfl, rfl, ⟨by decide, by decide, by decide⟩, _, _, rfl, rfl, _, rfl, ite2 (fun e => ?_) (fun e => ?_)⟩
    · refine ⟨_, rfl, _, rfl, k, rfl, by omega, by omega, for_range (lo := 0) (n := k.toNat) (fun i σ H' => ∃ l y z, σ = [some (.int c), some (.int k), some (.int b), some (.int l), y, z] ∧ H' = H) ⟨c, none, none, rfl, rfl⟩ ?_ ?_⟩
      · rintro i σ H' hi ⟨l, y, z, rfl, rfl⟩
        refine ⟨_, rfl, rfl, _, rfl, ite2 (fun e2 => ?_) (fun e2 => ?_)⟩
        · exact q 0 (by omega) b0
        · exact ⟨_, rfl, _, rfl, _, _, rfl, rfl, ⟨b0, b1⟩, _, _, _, rfl, rfl⟩
      · rintro σ H' ⟨l, y, z, rfl, rfl⟩
        exact ⟨_, rfl, _, rfl, _, _, rfl, rfl, b0, q _ (rng l).1 (rng l).2⟩
    · have m1 := Int.emod_nonneg c (show (1000000007 : Int) ≠ 0 by decide)
      have m2 := Int.emod_lt_of_pos c (show (0 : Int) < 1000000007 by decide)
      refine ⟨_, rfl, _, _, rfl, rfl, (by show (0 : Int) < 1000000007; decide), _, rfl, _, _, rfl, rfl, .inl ⟨by decide, by decide⟩, _, _, rfl, rfl, _, _, rfl, rfl, _, _, rfl, rfl, .inr ⟨by decide, by decide⟩, _, _, rfl, rfl, (by show (0 : Int) < 2147483647; decide), ?_⟩
      generalize hs : ((c % 1000000007 + 1009 * k + 17) * 69621) % 2147483647 = st
      have s1 : 0 ≤ st := by rw [← hs]; exact Int.emod_nonneg _ (by decide)
      have s2 : st < 2147483647 := by rw [← hs]; exact Int.emod_lt_of_pos _ (by decide)
      refine ⟨_, rfl, _, rfl, _, _, rfl, rfl, .inl ⟨by omega, by omega⟩, _, rfl, _, _, rfl, rfl, .inl ⟨by decide, by decide⟩, _, _, rfl, rfl, _, _, rfl, rfl, _, _, rfl, rfl, (by show (0 : Int) < 2147483629; decide), ?_⟩
      generalize (st * st + 40503 * k + 5) % 2147483629 = su
      refine ⟨_, rfl, _, _, rfl, rfl, .inr ⟨by decide, by decide⟩, _, _, rfl, rfl, (by show (0 : Int) < 2147483647; decide), _, _, rfl, rfl, ⟨by decide, by decide⟩, _, rfl, _, _, rfl, rfl, b0, q _ (rng _).1 (rng _).2⟩

def spLawOrder : Sp := fun vs H Q _ => ∃ c m : Int, vs = [.int c, .int 0, .int m] ∧ 1 ≤ m ∧ m ≤ 40 ∧ ∀ H' p l, Same H H' → Zt H' p l → Ord l → Q (.ref p) H'
theorem ok_law_order (T : Txt K mg) : DefOk P w K mg base CX0 2 "_law_order" ["_law_cell", "_law_at", "_law_most"] spLawOrder := by
  have D_law_draw : DefOk P w K mg base CX0 1 "_law_draw" ["_law_cell", "_law_k", "_law_bound"] spDraw := ok_law_draw T
  refine def_of T.d_law_order T.g_law_order (fun _ _ _ _ _ _ us hl => match us, hl with | [_, _, _], _ => rfl) fun fd F => ?_
  refine F.ok sc_law_order (fun vs H Q E h => ?_) (fun cdv A outer s H vs Q E hr h => ?_)
  · obtain ⟨c, m, rfl, _⟩ := h; rfl
  · obtain ⟨c, m, rfl, m1, m40, kY⟩ := h
    refine ⟨_, PSs.nox (pss_cons (ps_set (i := 3) sc_law_order.nd rfl (Or.inl rfl) (pe_op op_add pe_int (pe_callD D_law_draw hr (by rfl) pass0 (pa_cons (pv 0) (pa_cons (pv 1) (pa_cons (pv 2) pa_nil))))))
 (pss_cons (ps_set (i := 4) sc_law_order.nd rfl (Or.inl rfl) (pe_callD D_law_draw hr (by rfl) pass0 (pa_cons (pv 0) (pa_cons (pe_op op_add (pv 1) pe_int) (pa_cons pe_int pa_nil)))))
 (pss_cons (ps_set (i := 5) sc_law_order.nd rfl (Or.inl rfl) (pe_lst pa_nil))
 (pss_cons (ps_for PassesOwn.never rfl (pi_range2 (by rfl) T.n_range (pa_cons pe_int (pa_cons (pe_op op_add (pv 3) pe_int) pa_nil))) (pg_name (i := 6) sc_law_order.nd rfl (Or.inl rfl)) (pss_cons (ps_set (i := 7) sc_law_order.nd rfl (Or.inl rfl) (pe_callD D_law_draw hr (by rfl) pass0 (pa_cons (pv 0) (pa_cons (pe_op op_add (pe_op op_add (pv 1) pe_int) (pv 6)) (pa_cons (pv 6) pa_nil)))))
 (pss_cons (ps_if (pt_cmpR op_eq (pv 4) pe_int (nomark _)) (pss_one (ps_set (i := 7) sc_law_order.nd rfl (Or.inl rfl) pe_int)) pss_nil)
 (pss_cons (ps_if (PW.pt (pw_or (pt_cmpR op_eq (pv 4) pe_int (nomark _)) (pw_or1 (PW.pt (pw_and (pt_cmpR op_eq (pv 4) pe_int (nomark _)) (pw_and1 (pt_cmpR op_gt (pe_callD D_law_draw hr (by rfl) pass0 (pa_cons (pv 0) (pa_cons (pe_op op_add (pe_op op_add (pv 1) pe_int) (pv 6)) (pa_cons pe_int pa_nil)))) pe_int (nomark _)))))))) (pss_one (ps_set (i := 7) sc_law_order.nd rfl (Or.inl rfl) (pe_op op_sub (pv 6) pe_int))) pss_nil)
 (pss_one (ps_expr (pe_bm PySem.F.plainAttrs_list PySem.F.slot_list_insert PySem.F.type_list_insert mt_insert (pv 5) (pa_cons (pv 7) (pa_cons (pv 6) pa_nil)))))))))
 (pss_one (ps_ret (pe_callTy (tupZK K) (by rfl) T.n_tuple (by decide +kernel) (pa_cons (pv 5) pa_nil)))))))), ?_⟩
    refine ⟨_, rfl, _, rfl, _, rfl, c, 0, m, rfl, by decide, by decide, by omega, by omega, fun r r0 r1 => ⟨_, _, rfl, rfl, ?_⟩⟩
    refine ⟨_, rfl, _, rfl, _, _, rfl, rfl, c, 1, 5, rfl, by decide, by decide, by decide, by decide, fun kd k0 k1 => ?_⟩
    refine ⟨sz 0, fun f nf => ?_⟩
    refine ⟨_, rfl, _, _, rfl, rfl, 1, 1 + r + 1, rfl, ⟨by omega, by omega, by omega, by omega⟩, ?_⟩
    have en : (1 + r + 1 - 1).toNat = (1 + r).toNat := by omega
    rw [en]
    refine for_range (lo := 1) (n := (1 + r).toNat) (fun i σ H' => ∃ fl x6 x7, σ = [some (.int c), some (.int 0), some (.int m), some (.int (1 + r)), some (.int kd), some (.ref f), x6, x7] ∧ Same H H' ∧ H' f = some (.lst (fl.map V.int)) ∧ fl.length = i ∧ fl.Perm (rng i))
      ⟨[], none, none, rfl, same_new nf, upd_same, rfl, List.Perm.refl _⟩ ?_ ?_
    · rintro i σ H' hi ⟨fl, x6, x7, rfl, sm, ef, lf, pm⟩
      have hi40 : i < 40 := by omega
      refine ⟨_, rfl, _, rfl, _, _, rfl, rfl, _, rfl, _, _, rfl, rfl, _, rfl, c, 0 + 2 + (1 + (i : Int)), 1 + (i : Int), rfl, by omega, by omega, by omega, by omega, fun sp s0 s1 => ?_⟩
      refine ⟨_, rfl, rfl, _, rfl, ite2 (fun c1 => ?_) (fun c1 => ?_)⟩
      · refine ⟨_, rfl, rfl, _, rfl, ite2 (fun c2 => ?_) (fun c2 => ?_)⟩
        · refine iteT ?_
          refine ⟨_, rfl, _, _, rfl, rfl, ?_⟩
          refine ⟨_, rfl, .inl ⟨rfl, _, SqL.of ef⟩, ?_⟩
          refine ⟨_, rfl, _, rfl, ?_⟩
          refine ⟨f, fl.map V.int, (1 + (i : Int) - 1), .int (1 + (i : Int)), rfl, rfl, ef, ?_⟩
          refine ⟨small_n (by rw [List.length_map, lf]; omega), by omega, by omega, ?_⟩
          exact Exists.intro (ins fl ((1 + (i : Int) - 1)).toNat (1 + (i : Int))) (Exists.intro _ (Exists.intro _ ⟨rfl, same_set sm nf, (by rw [upd_same]; exact ins_map _ _ _), (by rw [ins_len, lf]), ins_perm pm⟩))
        · refine ⟨_, rfl, rfl, _, rfl, ite2 (fun c3 => ?_) (fun c3 => ?_)⟩
          · refine ⟨_, rfl, _, rfl, _, _, rfl, rfl, _, rfl, _, _, rfl, rfl, c, 0 + 60 + (1 + (i : Int)), 5, rfl, by omega, by omega, by decide, by decide, fun d d0 d1 => ?_⟩
            refine ⟨_, _, rfl, rfl, _, rfl, ite2 (fun c4 => ?_) (fun c4 => ?_)⟩
            · refine ⟨_, rfl, _, _, rfl, rfl, ?_⟩
              refine ⟨_, rfl, .inl ⟨rfl, _, SqL.of ef⟩, ?_⟩
              refine ⟨_, rfl, _, rfl, ?_⟩
              refine ⟨f, fl.map V.int, (1 + (i : Int) - 1), .int (1 + (i : Int)), rfl, rfl, ef, ?_⟩
              refine ⟨small_n (by rw [List.length_map, lf]; omega), by omega, by omega, ?_⟩
              exact Exists.intro (ins fl ((1 + (i : Int) - 1)).toNat (1 + (i : Int))) (Exists.intro _ (Exists.intro _ ⟨rfl, same_set sm nf, (by rw [upd_same]; exact ins_map _ _ _), (by rw [ins_len, lf]), ins_perm pm⟩))
            · refine ⟨_, rfl, .inl ⟨rfl, _, SqL.of ef⟩, ?_⟩
              refine ⟨_, rfl, _, rfl, ?_⟩
              refine ⟨f, fl.map V.int, (0 : Int), .int (1 + (i : Int)), rfl, rfl, ef, ?_⟩
              refine ⟨small_n (by rw [List.length_map, lf]; omega), by omega, by omega, ?_⟩
              exact Exists.intro (ins fl ((0 : Int)).toNat (1 + (i : Int))) (Exists.intro _ (Exists.intro _ ⟨rfl, same_set sm nf, (by rw [upd_same]; exact ins_map _ _ _), (by rw [ins_len, lf]), ins_perm pm⟩))
          · refine iteF ?_
            refine ⟨_, rfl, .inl ⟨rfl, _, SqL.of ef⟩, ?_⟩
            refine ⟨_, rfl, _, rfl, ?_⟩
            refine ⟨f, fl.map V.int, (0 : Int), .int (1 + (i : Int)), rfl, rfl, ef, ?_⟩
            refine ⟨small_n (by rw [List.length_map, lf]; omega), by omega, by omega, ?_⟩
            exact Exists.intro (ins fl ((0 : Int)).toNat (1 + (i : Int))) (Exists.intro _ (Exists.intro _ ⟨rfl, same_set sm nf, (by rw [upd_same]; exact ins_map _ _ _), (by rw [ins_len, lf]), ins_perm pm⟩))
      · refine ⟨_, rfl, rfl, _, rfl, ite2 (fun c2 => ?_) (fun c2 => ?_)⟩
        · refine iteT ?_
          refine ⟨_, rfl, _, _, rfl, rfl, ?_⟩
          refine ⟨_, rfl, .inl ⟨rfl, _, SqL.of ef⟩, ?_⟩
          refine ⟨_, rfl, _, rfl, ?_⟩
          refine ⟨f, fl.map V.int, (1 + (i : Int) - 1), .int (1 + (i : Int)), rfl, rfl, ef, ?_⟩
          refine ⟨small_n (by rw [List.length_map, lf]; omega), by omega, by omega, ?_⟩
          exact Exists.intro (ins fl ((1 + (i : Int) - 1)).toNat (1 + (i : Int))) (Exists.intro _ (Exists.intro _ ⟨rfl, same_set sm nf, (by rw [upd_same]; exact ins_map _ _ _), (by rw [ins_len, lf]), ins_perm pm⟩))
        · refine ⟨_, rfl, rfl, _, rfl, ite2 (fun c3 => ?_) (fun c3 => ?_)⟩
          · refine ⟨_, rfl, _, rfl, _, _, rfl, rfl, _, rfl, _, _, rfl, rfl, c, 0 + 60 + (1 + (i : Int)), 5, rfl, by omega, by omega, by decide, by decide, fun d d0 d1 => ?_⟩
            refine ⟨_, _, rfl, rfl, _, rfl, ite2 (fun c4 => ?_) (fun c4 => ?_)⟩
            · refine ⟨_, rfl, _, _, rfl, rfl, ?_⟩
              refine ⟨_, rfl, .inl ⟨rfl, _, SqL.of ef⟩, ?_⟩
              refine ⟨_, rfl, _, rfl, ?_⟩
              refine ⟨f, fl.map V.int, (1 + (i : Int) - 1), .int (1 + (i : Int)), rfl, rfl, ef, ?_⟩
              refine ⟨small_n (by rw [List.length_map, lf]; omega), by omega, by omega, ?_⟩
              exact Exists.intro (ins fl ((1 + (i : Int) - 1)).toNat (1 + (i : Int))) (Exists.intro _ (Exists.intro _ ⟨rfl, same_set sm nf, (by rw [upd_same]; exact ins_map _ _ _), (by rw [ins_len, lf]), ins_perm pm⟩))
            · refine ⟨_, rfl, .inl ⟨rfl, _, SqL.of ef⟩, ?_⟩
              refine ⟨_, rfl, _, rfl, ?_⟩
              refine ⟨f, fl.map V.int, sp, .int (1 + (i : Int)), rfl, rfl, ef, ?_⟩
              refine ⟨small_n (by rw [List.length_map, lf]; omega), by omega, by omega, ?_⟩
              exact Exists.intro (ins fl (sp).toNat (1 + (i : Int))) (Exists.intro _ (Exists.intro _ ⟨rfl, same_set sm nf, (by rw [upd_same]; exact ins_map _ _ _), (by rw [ins_len, lf]), ins_perm pm⟩))
          · refine iteF ?_
            refine ⟨_, rfl, .inl ⟨rfl, _, SqL.of ef⟩, ?_⟩
            refine ⟨_, rfl, _, rfl, ?_⟩
            refine ⟨f, fl.map V.int, sp, .int (1 + (i : Int)), rfl, rfl, ef, ?_⟩
            refine ⟨small_n (by rw [List.length_map, lf]; omega), by omega, by omega, ?_⟩
            exact Exists.intro (ins fl (sp).toNat (1 + (i : Int))) (Exists.intro _ (Exists.intro _ ⟨rfl, same_set sm nf, (by rw [upd_same]; exact ins_map _ _ _), (by rw [ins_len, lf]), ins_perm pm⟩))
    · rintro σ H' ⟨fl, x6, x7, rfl, sm, ef, lf, pm⟩
      refine ⟨_, rfl, f, _, rfl, SqL.of ef, fun p ob hd np => ?_⟩
      refine kY _ p fl (sm.trans (same_new np)) ⟨ob, hd, upd_same⟩ ⟨by omega, by omega, by rw [lf]; exact pm⟩

theorem items_dp {K : PySem.W.Frag} {H : Hp} : ∀ {ys : List V}, (∀ y ∈ ys, It1 H y none) → ∃ ds, DpAll K H ys ds ∧ PyData.canLayAll0 ds = true ∧ PyData.depthAll ds ≤ 1
  | [], _ => ⟨[], .nil, rfl, Nat.zero_le _⟩
  | y :: ys, h => by
    obtain ⟨d, d1, d2, d3⟩ := (h y List.mem_cons_self).dp (K := K)
    obtain ⟨ds, e1, e2, e3⟩ := items_dp fun z hz => h z (List.mem_cons_of_mem _ hz)
    refine ⟨d :: ds, .cons d1 e1, ?_, ?_⟩
    · show (PyData.canLay0 d && PyData.canLayAll0 ds) = true
      rw [d2, e2]; rfl
    · show max (PyData.depth d) (PyData.depthAll ds) ≤ 1
      omega
def spLawThing (K : PySem.W.Frag) (f : Option (List (Option Int)) → Bool) : Sp := fun vs H Q _ => ∃ (x : V) (d : Option (List (Option Int))), vs = [x] ∧ TD K H x d ∧ ∀ H', Same H H' → Q (.bl (f d)) H'
theorem ok_law_is_order (T : Txt K mg) : DefOk P w K mg base CX0 1 "_law_is_order" ["_law_thing"] (spLawThing K ordB) := by
  refine def_of T.d_law_is_order T.g_law_is_order (fun _ _ _ _ _ _ us hl => match us, hl with | [_], _ => rfl) fun fd F => ?_
  refine F.ok sc_law_is_order (fun vs H Q E h => ?_) (fun cdv A outer s H vs Q E hr h => ?_)
  · obtain ⟨x, d, rfl, _⟩ := h; rfl
  · obtain ⟨x, d, rfl, hT, q⟩ := h
    refine ⟨_, PSs.nox (pss_cons (ps_if (PW.pt (pw_or (pt_not (pt_val (pe_callB (isiK K) (by rfl) T.n_isinstance (by decide +kernel) (pa_cons (pv 0) (pa_cons (pe_bltn (v := .ty "tuple") (u := .type "tuple") (by rfl) T.n_tuple (by decide +kernel) rfl) pa_nil))))) (pw_or1 (pt_not (pt_chain op_le op_le pe_int (pe_callB (lenK K) (by rfl) T.n_len boot_len (pa_cons (pv 0) pa_nil)) pe_int))))) (pss_one (ps_ret pe_bl)) pss_nil)
 (pss_cons (ps_if (pt_cmpR (neDK K hr.units) (pe_lc (own := [("_law_one", 1)]) (g := gName 1) (by rfl) sc_law_is_order.nd (pi_tup (pv 0)) (blkOk_by (own := [("_law_one", 1)]) (N := N_law_is_order) (sc := defScope S_law_is_order) (by decide +kernel)) (fun _ _ _ _ _ => (pg_name (i := 1) sc_law_is_order.nd rfl (Or.inl rfl))) (fun _ _ _ _ _ => (pts_one (PW.pt (pw_or (pt_not (pt_val (pe_callB (isiK K) (by rfl) T.n_isinstance (by decide +kernel) (pa_cons (pv 1) (pa_cons (pe_bltn (v := .ty "int") (u := .type "int") (by rfl) T.n_int (by decide +kernel) rfl) pa_nil))))) (pw_or1 (pt_val (pe_callB (isiK K) (by rfl) T.n_isinstance (by decide +kernel) (pa_cons (pv 1) (pa_cons (pe_bltn (v := .ty "bool") (u := .type "bool") (by rfl) T.n_bool (by decide +kernel) rfl) pa_nil))))))))) (fun _ _ _ _ _ => (pv 1))) (pe_lst pa_nil) (nomark _)) (pss_one (ps_ret pe_bl)) pss_nil)
 (pss_one (ps_ret (pe_cmpR (eqDK K hr.units) (pe_callB (sortedTupK K) (by rfl) T.n_sorted (by decide +kernel) (pa_cons (pv 0) pa_nil)) (pe_listRg rfl (by rfl) T.n_list (prg_2 (by rfl) T.n_range pe_int (pe_op op_add (pe_callB (lenK K) (by rfl) T.n_len boot_len (pa_cons (pv 0) pa_nil)) pe_int))) (nomark _)))))), ?_⟩
    obtain ⟨ty, hty, hk⟩ := hT.kind
    refine ⟨_, rfl, _, _, _, _, _, rfl, .ty "tuple", hty, hk, _, rfl, ?_⟩
    cases hT with
    | other t m n =>
      refine iteT (iteT ?_)
      exact q _ (Same.refl _)
    | @tup a xs ws hS hn h100 hit =>
      refine iteF ?_
      have ln : ((xs.length : Nat) : Int) = ((ws.length : Nat) : Int) := by rw [hn]
      have shut : ordB (some ws) = false → ∀ H', Same H H' → Q (.bl false) H' := fun e H' s' => by rw [← e]; exact q _ s'
      have lowB : ¬ (1 ≤ ws.length ∧ ws.length ≤ 40) → ordB (some ws) = false := fun no => by
        cases hw : ordB (some ws) with
        | false => rfl
        | true =>
          have o := ordB_ord hw
          have h1 := o.pos
          have h2 := o.few
          rw [List.length_map] at h1 h2
          exact absurd ⟨h1, h2⟩ no
      refine ⟨_, rfl, a, _, rfl, .inr hS, _, _, rfl, rfl, _, rfl, ite2 (fun c1 => ?_) (fun c1 => ?_)⟩
      · have c1 := of_decide_eq_true c1
        refine ⟨_, _, rfl, rfl, _, rfl, ?_⟩
        by_cases c2 : ws.length ≤ 40
        · rw [show decide (((xs.length : Nat) : Int) ≤ 40) = true from decide_eq_true (by omega)]
          refine iteF ?_
          refine ⟨_, rfl, a, rfl, ⟨_, hS⟩, fun D nD => ?_⟩
          refine lc_tup (K := K) (xs := xs) (fun j H3 => Same H H3 ∧ ∃ ys : List V, H3 D = some (.lst ys) ∧ ys.length ≤ j ∧ (∀ y ∈ ys, It1 H y none) ∧ (ys = [] ↔ (ws.take j).all (·.isSome) = true)) ⟨same_new nD, [], upd_same, Nat.le_refl _, (fun y hy => by cases hy), by simp⟩ (fun j H3 _ ⟨s3, _⟩ => ext_sqt (Same.ext s3) hS) ?_ ?_
          · rintro j y H3 hy ⟨s3, ys, eD, ly, iy, ey⟩
            have hj : j < ws.length := by rw [← hn]; exact (List.getElem?_eq_some_iff.mp hy).1
            have hw := List.getElem?_eq_getElem hj
            have k1 := hit j y _ hy hw
            generalize ws[j] = w at *
            have k3 := k1.ext (Same.ext s3)
            obtain ⟨ty, t1, t2, t3⟩ := (k3.thing (K := K)).ex
            have etake : (ws.take (j + 1)).all (·.isSome) = ((ws.take j).all (·.isSome) && w.isSome) := by
              rw [List.take_add_one, hw, List.all_append]; simp
            have skip : w.isSome = true → Same H H3 ∧ ∃ ys : List V, H3 D = some (.lst ys) ∧ ys.length ≤ j + 1 ∧ (∀ y ∈ ys, It1 H y none) ∧ (ys = [] ↔ (ws.take (j + 1)).all (·.isSome) = true) := fun e =>
              ⟨s3, ys, eD, by omega, iy, by rw [etake, e, Bool.and_true]; exact ey⟩
            have take : w.isSome = false → ∃ acc, H3 D = some (.lst acc) ∧ acc.length < sizeLine ∧ (Same H (upd H3 D (.lst (acc ++ [y]))) ∧ ∃ ys : List V, (upd H3 D (.lst (acc ++ [y]))) D = some (.lst ys) ∧ ys.length ≤ j + 1 ∧ (∀ y ∈ ys, It1 H y none) ∧ (ys = [] ↔ (ws.take (j + 1)).all (·.isSome) = true)) := fun e => by
              obtain rfl : w = none := by cases w with
                | none => rfl
                | some i => cases e
              refine ⟨ys, eD, small_n (by omega), same_set s3 nD, ys ++ [y], upd_same, by rw [List.length_append]; exact Nat.add_le_add_right ly 1, fun z hz => ?_, ?_⟩
              · cases List.mem_append.mp hz with
                | inl h => exact iy z h
                | inr h => rw [List.mem_singleton.mp h]; exact k1
              · rw [etake]
                simp
            refine ⟨rfl, _, rfl, _, _, _, _, _, rfl, .ty "int", t1, kit_ty (kit_int ty t2), _, rfl, ?_⟩
            cases hc : (ty == "int" || ty == "bool") with
            | false =>
              rw [Bool.or_eq_false_iff] at hc
              refine iteT (iteT ?_)
              exact ⟨_, rfl, take (by rw [← t3]; exact hc.1)⟩
            | true =>
              refine iteF ?_
              refine ⟨_, rfl, _, _, _, _, _, rfl, .ty "bool", t1, kit_ty (kit_bool ty t2), _, rfl, ?_⟩
              cases hb : ty == "bool" with
              | true =>
                refine iteT ?_
                refine ⟨_, rfl, take ?_⟩
                rw [← t3, eq_of_beq hb]; rfl
              | false =>
                refine iteF ?_
                refine skip ?_
                rw [hb, Bool.or_false] at hc
                rw [← t3]; exact hc
          · rintro H3 ⟨s3, ys, eD, ly, iy, ey⟩
            rw [hn, List.take_length] at ey
            obtain ⟨ds, dd, dl, dp⟩ := items_dp (K := K) iy
            refine ⟨sz 0, fun E0 nE => ?_⟩
            have sE := same_new (o := .lst []) nE
            obtain ⟨ds, dd, dl, dp⟩ := items_dp (K := K) (fun y hy => (iy y hy).ext (Same.ext (s3.trans sE)))
            have sh : SeqAt.shaped (.list ds) = true := by
              show (PyData.canLayAll0 ds && decide (PyData.depthAll ds + 1 ≤ 64)) = true
              rw [dl, decide_eq_true (by omega)]; rfl
            refine ⟨.list ds, .list [], .lst (SqL.of (sE _ _ eD)) dd, .lst (SqL.of upd_same) .nil, sh, rfl, ?_⟩
            have ed : PyData.eqv (.list ds) (.list []) = decide (ys = []) := by
              cases dd with
              | nil => rfl
              | cons _ _ => rfl
            rw [ed]
            refine ⟨_, rfl, ?_⟩
            have sA := s3.trans sE
            by_cases cy : ys = []
            · rw [decide_eq_true cy]
              refine iteF ?_
              have hall := ey.mp cy
              have eb : ordB (some ws) = permB (ws.map (·.getD 0)) := by
                show (((decide (1 ≤ ws.length)) && (decide (ws.length ≤ 40) && ws.all (·.isSome))) && permB (ws.map (·.getD 0))) = _
                rw [hall, decide_eq_true (show 1 ≤ ws.length by omega), decide_eq_true c2]; rfl
              obtain ⟨p, ep, hS0⟩ := (TD.tup hS hn h100 hit).ints hall
              cases ep
              have hS1 := ext_sqt (Same.ext sA) hS0
              have ln2 : (ws.map (·.getD 0)).length = ws.length := List.length_map ..
              generalize ws.map (·.getD 0) = l at *
              refine ⟨_, rfl, a, l, rfl, hS1, fun ms p pm pw np => ?_⟩
              have sp := same_new (o := .lst (ms.map V.int)) np
              have hS2 := ext_sqt (Same.ext sp) hS1
              have hl : (l.map V.int).length = l.length := List.length_map ..
              refine ⟨_, rfl, a, _, rfl, .inr hS2, _, _, rfl, rfl, _, _, rfl, rfl, ?_⟩
              rw [hl]
              refine ⟨RgOk.of_le (by decide) (by omega) (by decide) (by omega), fun r nr => ?_⟩
              have sr := same_new (o := .lst (rgV 1 ((l.length : Int) + 1))) nr
              rw [rg_eq] at sr ⊢
              refine eq_ints (a := ms) (b := rng l.length) (dp_list (SqL.of (sr _ _ upd_same))) (dp_list (SqL.of upd_same)) ?_
              rw [sorted_perm pm pw, ← eb]
              exact q _ ((sA.trans sp).trans sr)
            · rw [decide_eq_false cy]
              refine iteT (shut ?_ _ sA)
              cases hw : ordB (some ws) with
              | false => rfl
              | true =>
                unfold ordB at hw
                rw [Bool.and_eq_true] at hw
                exact absurd (ey.mpr (wholeB_some hw.1).2.2) cy
        · rw [show decide (((xs.length : Nat) : Int) ≤ 40) = false from decide_eq_false (by omega)]
          exact iteT (shut (lowB (by omega)) _ (Same.refl _))
      · have c1 := of_decide_eq_false (Bool.eq_false_iff.mpr c1)
        exact ⟨_, rfl, iteT (shut (lowB (by omega)) _ (Same.refl _))⟩

theorem take_g {K : PySem.W.Frag} {H : Hp} {Q : VK} {t : Addr} {xs : List V} {k : Nat} (hS : SqT K H t xs) (hk : k ≤ xs.length) (q : ∀ H' p, Same H H' → SqT K H' p (xs.take k) → Q (.ref p) H') : rSlA K (.ref t) none (some (k : Int)) H Q := by
  refine ⟨t, _, rfl, hS, fun c => ?_, fun c p np => ?_⟩
  · have z := c.2
    rw [HT.sIx_nat, Nat.min_eq_left hk] at z
    refine q H t (Same.refl _) ?_
    rw [z, List.take_length]; exact hS
  · refine q _ p (same_new np) (SqT.of ?_)
    rw [upd_same]
    unfold cutV
    rw [HT.sIx_none, HT.sIx_nat, Nat.min_eq_left hk, List.drop_zero, Nat.sub_zero]
theorem drop_g {K : PySem.W.Frag} {H : Hp} {Q : VK} {t : Addr} {xs : List V} {k : Nat} (hS : SqT K H t xs) (hk : k ≤ xs.length) (q : ∀ H' p, Same H H' → SqT K H' p (xs.drop k) → Q (.ref p) H') : rSlA K (.ref t) (some (k : Int)) none H Q := by
  refine ⟨t, _, rfl, hS, fun c => ?_, fun c p np => ?_⟩
  · have z := c.1
    rw [HT.sIx_nat, Nat.min_eq_left hk] at z
    refine q H t (Same.refl _) ?_
    rw [z, List.drop_zero]; exact hS
  · refine q _ p (same_new np) (SqT.of ?_)
    rw [upd_same, cut_nat hk]
theorem cat_g {K : PySem.W.Frag} {H : Hp} {Q : VK} {a b : Addr} {xs ys : List V} (ha : SqT K H a xs) (hb : SqT K H b ys) (hz : xs.length + ys.length ≤ 1000) (q : ∀ H' p, Same H H' → SqT K H' p (xs ++ ys) → Q (.ref p) H') : rCatA K (.ref a) (.ref b) H Q := by
  refine ⟨a, b, _, _, rfl, rfl, ha, hb, Nat.le_trans hz (by decide), fun c => ?_, fun c d => ?_, fun c d p np => ?_⟩
  · refine q H b (Same.refl _) ?_
    rw [c, List.nil_append]; exact hb
  · refine q H a (Same.refl _) ?_
    rw [d, List.append_nil]; exact ha
  · exact q _ p (same_new np) (SqT.of upd_same)
theorem sqt_same {K : PySem.W.Frag} {H H' : Hp} {a : Addr} {xs : List V} (h : SqT K H a xs) (s : Same H H') : SqT K H' a xs := ext_sqt (Same.ext s) h
theorem TD.mix {K : PySem.W.Frag} {H : Hp} {p : Addr} {a b : List Int} {y : V} {w : Option Int} (h : SqT K H p (a.map V.int ++ [y] ++ b.map V.int)) (i : It1 H y w) (s : a.length + b.length ≤ 99) : TD K H (.ref p) (some (a.map some ++ [w] ++ b.map some)) := by
  have lens : (a.map V.int ++ [y] ++ b.map V.int).length = a.length + 1 + b.length := by
    rw [List.length_append, List.length_append, List.length_map, List.length_map]; rfl
  refine .tup h ?_ (by rw [lens]; omega) fun j z v h1 h2 => ?_
  · rw [lens, List.length_append, List.length_append, List.length_map, List.length_map]; rfl
  · have l1 : (a.map V.int ++ [y]).length = a.length + 1 := by rw [List.length_append, List.length_map]; rfl
    have l2 : (a.map some ++ [w]).length = a.length + 1 := by rw [List.length_append, List.length_map]; rfl
    by_cases c : j < a.length + 1
    · rw [List.getElem?_append_left (by omega)] at h1 h2
      by_cases c2 : j < a.length
      · rw [List.getElem?_append_left (by rw [List.length_map]; exact c2), List.getElem?_map, List.getElem?_eq_getElem c2] at h1 h2
        cases h1
        cases h2
        exact .int _
      · have : j = a.length := by omega
        subst this
        rw [List.getElem?_append_right (by rw [List.length_map]; exact Nat.le_refl _), List.length_map, Nat.sub_self] at h1 h2
        cases h1
        cases h2
        exact i
    · rw [List.getElem?_append_right (by omega)] at h1 h2
      rw [l1, List.getElem?_map] at h1
      rw [l2, List.getElem?_map] at h2
      cases e : b[j - (a.length + 1)]? with
      | none => rw [e] at h1; cases h1
      | some n =>
        rw [e] at h1 h2
        cases h1
        cases h2
        exact .int _
theorem str_ok {n : Int} (h0 : 0 ≤ n) (h : n ≤ 100) : PyData.canLay0 (.str (toString n : Str)) = true ∧ n.natAbs.log2 < 1920 := by
  have key : ((List.range 101).all fun k => PyData.canLay0 (.str (toString (k : Int) : Str)) && decide ((k : Int).natAbs.log2 < 1920)) = true := by decide +kernel
  have z := List.all_eq_true.mp key n.toNat (List.mem_range.mpr (by omega))
  rw [Bool.and_eq_true, decide_eq_true_eq, show ((n.toNat : Nat) : Int) = n by omega] at z
  exact z
def swp2 (l : List Int) (i j : Nat) : List Int := (l.set i (l.getD j 0)).set j (l.getD i 0)
def mask (D : Addr) (H : Hp) : Hp := fun a => if a = D then none else H a
theorem mask_at {D a : Addr} {H : Hp} {o : HO} (h : H a = some o) (n : a ≠ D) : mask D H a = some o := by
  show (if a = D then none else H a) = some o
  rw [if_neg n]; exact h
theorem mask_sub {D : Addr} {H : Hp} : Same (mask D H) H := fun a o h => by
  have h : (if a = D then none else H a) = some o := h
  by_cases c : a = D
  · rw [if_pos c] at h; cases h
  · rw [if_neg c] at h; exact h
theorem mask_set {D : Addr} {H : Hp} {o : HO} : mask D (upd H D o) = mask D H := funext fun a => by
  show (if a = D then none else upd H D o a) = (if a = D then none else H a)
  by_cases c : a = D
  · rw [if_pos c, if_pos c]
  · rw [if_neg c, if_neg c]; exact upd_ne c
theorem mx {D : Addr} {H H' : Hp} (s : Same H H') : LamX.ExtN (mask D H) (mask D H') := fun a o h _ => by
  have h : (if a = D then none else H a) = some o := h
  by_cases c : a = D
  · rw [if_pos c] at h; cases h
  · rw [if_neg c] at h; exact mask_at (s _ _ h) c
theorem ne_free {D q : Addr} {H : Hp} {o : HO} (hD : H D = some o) (n : H q = none) : q ≠ D := fun e => by rw [e, hD] at n; cases n
theorem mask_new {D q : Addr} {H H' : Hp} {o x : HO} (n : H' q = none) (s : Same H H') (hD : H D = some o) : mask D (upd H' q x) q = some x := mask_at upd_same (ne_free (s _ _ hD) n)
theorem sqt_mask {K : PySem.W.Frag} {D a : Addr} {H H' : Hp} {acc xs : List V} (h : SqT K H' a xs) (s : Same H H') (hD : H D = some (.lst acc)) : SqT K (mask D H') a xs := by
  have hD' := s _ _ hD
  rcases h with (h | ⟨o, h⟩) | h
  · exact .inl (.inl (mask_at h fun e => by rw [e, hD'] at h; cases h))
  · exact .inl (.inr ⟨o, mask_at h fun e => by rw [e, hD'] at h; cases h⟩)
  · exact .inr h
def spBent (K : PySem.W.Frag) : Sp := fun vs H Q _ => ∃ (c at' : Int) (p : Addr) (l : List Int) (D : Addr) (acc : List V), vs = [.int c, .int at', .ref p] ∧ 0 ≤ at' ∧ at' < 100000 ∧ Zt H p l ∧ Ord l ∧ H D = some (.lst acc) ∧ ∀ H' x d, Same H H' → TD K (mask D H') x d → Q x H'
theorem ok_law_bent (T : Txt K mg) : DefOk P w K mg base CX0 2 "_law_bent" ["_law_cell", "_law_at", "_law_some"] (spBent K) := by
  have D_law_draw : DefOk P w K mg base CX0 1 "_law_draw" ["_law_cell", "_law_k", "_law_bound"] spDraw := ok_law_draw T
  refine def_of T.d_law_bent T.g_law_bent (fun _ _ _ _ _ _ us hl => match us, hl with | [_, _, _], _ => rfl) fun fd F => ?_
  refine F.ok sc_law_bent (fun vs H Q E h => ?_) (fun cdv A outer s H vs Q E hr h => ?_)
  · obtain ⟨c, at', p, l, D, acc, rfl, _⟩ := h; rfl
  · obtain ⟨c, at', p, l, D, acc, rfl, a0, a1, hZ, o, hD, q⟩ := h
    have pD : p ≠ D := fun e => by
      obtain ⟨ob, _, z⟩ := hZ
      rw [e, hD] at z; cases z
    refine ⟨_, PSs.nox (pss_cons (ps_set (i := 3) sc_law_bent.nd rfl (Or.inl rfl) (pe_callB (lenK K) (by rfl) T.n_len boot_len (pa_cons (pv 2) pa_nil)))
 (pss_cons (ps_set (i := 4) sc_law_bent.nd rfl (Or.inl rfl) (pe_callD D_law_draw hr (by rfl) pass0 (pa_cons (pv 0) (pa_cons (pe_op op_add (pv 1) pe_int) (pa_cons (pv 3) pa_nil)))))
 (pss_cons (ps_set (i := 5) sc_law_bent.nd rfl (Or.inl rfl) (pe_ix (ixTK K) (pv 2) (pv 4) (fun _ _ => rfl)))
 (pss_cons (ps_set (i := 6) sc_law_bent.nd rfl (Or.inl rfl) (pe_lst (pa_cons (pe_op op_add (pv 5) pe_int) (pa_cons (pe_op op_sub (pv 5) pe_int) (pa_cons pe_int (pa_cons (pe_un un_neg pe_int) (pa_cons (pe_op op_add (pv 3) pe_int) (pa_cons pe_bl (pa_cons pe_non (pa_cons (pe_callTy call_str_int (by rfl) T.n_str (by decide +kernel) (pa_cons (pv 5) pa_nil)) (pa_cons (pe_tup (pa_cons (pv 5) pa_nil)) (pa_cons (pe_lst (pa_cons (pv 5) pa_nil)) (pa_cons (pe_op op_pow pe_int pe_int) (pa_cons (pe_un un_neg (pe_op op_pow pe_int pe_int)) pa_nil))))))))))))))
 (pss_cons (ps_set (i := 7) sc_law_bent.nd rfl (Or.inl rfl) (pe_lst (pa_cons (pe_op (catAK K) (pe_op (catAK K) (pe_slice (slAK K) (pv 2) po_none (po_some (pv 4))) (pe_tup (pa_cons (pe_ix (ixLK K) (pv 6) (pe_callD D_law_draw hr (by rfl) pass0 (pa_cons (pv 0) (pa_cons (pe_op op_add (pv 1) pe_int) (pa_cons pe_int pa_nil)))) (fun _ _ => rfl)) pa_nil))) (pe_slice (slAK K) (pv 2) (po_some (pe_op op_add (pv 4) pe_int)) po_none)) (pa_cons (pe_op (catAK K) (pe_slice (slAK K) (pv 2) po_none (po_some (pv 4))) (pe_slice (slAK K) (pv 2) (po_some (pe_op op_add (pv 4) pe_int)) po_none)) pa_nil))))
 (pss_cons (ps_set (i := 7) sc_law_bent.nd rfl (Or.inl rfl) (pe_op op_cat (pv 7) (pe_lst (pa_cons (pe_op (catAK K) (pe_op (catAK K) (pe_slice (slAK K) (pv 2) po_none (po_some (pv 4))) (pe_tup (pa_cons (pv 5) pa_nil))) (pe_slice (slAK K) (pv 2) (po_some (pv 4)) po_none)) (pa_cons (pe_callTy call_list_of (by rfl) T.n_list (by decide +kernel) (pa_cons (pv 2) pa_nil)) (pa_cons (revTK K (pv 2)) (pa_cons (pe_tup (pa_cons (pv 2) pa_nil)) (pa_cons pe_non (pa_cons pe_str (pa_cons pe_dnewK (pa_cons pe_int (pa_cons (pe_tup pa_nil) pa_nil))))))))))))
 (pss_cons (ps_set (i := 8) sc_law_bent.nd rfl (Or.inl rfl) (pe_callTy call_list_of (by rfl) T.n_list (by decide +kernel) (pa_cons (pv 2) pa_nil)))
 (pss_cons (ps_set (i := 9) sc_law_bent.nd rfl (Or.inl rfl) (pe_callD D_law_draw hr (by rfl) pass0 (pa_cons (pv 0) (pa_cons (pe_op op_add (pv 1) pe_int) (pa_cons (pv 3) pa_nil)))))
 (pss_cons (ps_asg (pe_tup (pa_cons (pe_ix (ixLK K) (pv 8) (pv 9) (fun _ _ => rfl)) (pa_cons (pe_ix (ixLK K) (pv 8) (pv 4) (fun _ _ => rfl)) pa_nil))) (pg_tup (by rfl) (pgs_cons (pg_sub (pv 8) (pv 4) set_list) (pgs_cons (pg_sub (pv 8) (pv 9) set_list) pgs_nil))))
 (pss_cons (ps_set (i := 7) sc_law_bent.nd rfl (Or.inl rfl) (pe_op op_cat (pv 7) (pe_lst (pa_cons (pe_callTy call_tuple_of (by rfl) T.n_tuple (by decide +kernel) (pa_cons (pv 8) pa_nil)) (pa_cons (pe_callTy call_tuple_of (by rfl) T.n_tuple (by decide +kernel) (pa_cons (pe_lc (own := [("_law_here", 10)]) (g := gName 10) (tt := tYes) (by rfl) sc_law_bent.nd (pi_tup (pv 2)) (blkOk_by (own := [("_law_here", 10)]) (N := N_law_bent) (sc := defScope S_law_bent) (by decide +kernel)) (fun _ _ _ _ _ => (pg_name (i := 10) sc_law_bent.nd rfl (Or.inl rfl))) (fun _ _ _ _ _ => pts_nil) (fun _ _ _ _ _ => (pe_op op_sub (pv 10) pe_int))) pa_nil)) (pa_cons (pe_op (catAK K) (pv 2) (pe_tup (pa_cons (pe_op op_add (pv 3) pe_int) pa_nil))) pa_nil))))))
 (pss_one (ps_ret (pe_ix (ixLK K) (pv 7) (pe_ix (ixLK K) (pe_lst (pa_cons pe_int (pa_cons pe_int (pa_cons pe_int (pa_cons pe_int (pa_cons pe_int (pa_cons pe_int (pa_cons pe_int (pa_cons pe_int (pa_cons pe_int (pa_cons pe_int (pa_cons pe_int (pa_cons pe_int (pa_cons pe_int (pa_cons pe_int (pa_cons pe_int (pa_cons pe_int (pa_cons pe_int (pa_cons pe_int (pa_cons pe_int pa_nil)))))))))))))))))))) (pe_callD D_law_draw hr (by rfl) pass0 (pa_cons (pv 0) (pa_cons (pv 1) (pa_cons pe_int pa_nil)))) (fun _ _ => rfl)) (fun _ _ => rfl)))))))))))))), ?_⟩
    have hS : SqT K H p (l.map V.int) := hZ.sq
    have hl : (l.map V.int).length = l.length := List.length_map ..
    have hpos := o.pos
    have hfew := o.few
    refine ⟨_, rfl, p, _, rfl, .inr hS, ?_⟩
    rw [hl]
    refine ⟨_, rfl, _, rfl, _, _, rfl, rfl, _, rfl, c, at' + 1, (l.length : Int), rfl, by omega, by omega, by omega, by omega, fun sp s0 s1 => ?_⟩
    obtain ⟨k, rfl⟩ : ∃ k : Nat, sp = (k : Int) := ⟨sp.toNat, by omega⟩
    have hk : k < l.length := by omega
    refine ⟨_, rfl, _, rfl, p, _, _, _, rfl, rfl, hS, at_of (j := k) rfl (getI hk), ?_⟩
    obtain ⟨o1, o2⟩ := o.mem.mp (List.mem_of_getElem? (getD_of hk))
    generalize l.getD k 0 = n at *
    obtain ⟨so, lo⟩ := str_ok (n := n) (by omega) (by omega)
    -- odd ones
    refine ⟨_, rfl, _, _, rfl, rfl, _, rfl, _, _, rfl, rfl, _, rfl, _, rfl, _, _, rfl, rfl, _, rfl, _, rfl, lo, _, rfl, sz 1, fun t nt => ?_⟩
    refine ⟨_, rfl, sz 1, fun li nli => ?_⟩
    refine ⟨_, _, rfl, rfl, ⟨by decide, by decide, by decide⟩, _, _, rfl, rfl, ⟨by decide, by decide, by decide⟩, _, rfl, sz 12, fun od nod => ?_⟩
    dsimp only
    have eo : (upd (upd (upd H t (.tup [.int n])) li (.lst [.int n])) od (.lst [.int (n + 1), .int (n - 1), .int 0, .int (-1), .int ((l.length : Int) + 1), .bl true, .non, .str (toString n : Str), .ref t, .ref li, .int (10 ^ Int.toNat 30), .int (-(10 ^ Int.toNat 20))])) od = some (.lst [.int (n + 1), .int (n - 1), .int 0, .int (-1), .int ((l.length : Int) + 1), .bl true, .non, .str (toString n : Str), .ref t, .ref li, .int (10 ^ Int.toNat 30), .int (-(10 ^ Int.toNat 20))]) := upd_same
    have st0 := same_new (o := .tup [.int n]) nt
    have sl0 := same_new (o := .lst [.int n]) nli
    have so0 := same_new (o := .lst [.int (n + 1), .int (n - 1), .int 0, .int (-1), .int ((l.length : Int) + 1), .bl true, .non, .str (toString n : Str), .ref t, .ref li, .int (10 ^ Int.toNat 30), .int (-(10 ^ Int.toNat 20))]) nod
    have et := so0 _ _ (sl0 _ _ (upd_same (H := H) (a := t) (o := .tup [.int n])))
    have el := so0 _ _ (upd_same (H := upd H t (.tup [.int n])) (a := li) (o := .lst [.int n]))
    have s1 : Same H _ := (st0.trans sl0).trans so0
    have tD := ne_free hD nt
    have liD := ne_free (st0 _ _ hD) nli
    generalize upd (upd (upd H t (.tup [.int n])) li (.lst [.int n])) od (.lst [.int (n + 1), .int (n - 1), .int 0, .int (-1), .int ((l.length : Int) + 1), .bl true, .non, .str (toString n : Str), .ref t, .ref li, .int (10 ^ Int.toNat 30), .int (-(10 ^ Int.toNat 20))]) = H1 at *
    have odd : ∀ (j : Nat) (y : V), ([.int (n + 1), .int (n - 1), .int 0, .int (-1), .int ((l.length : Int) + 1), .bl true, .non, .str (toString n : Str), .ref t, .ref li, .int (10 ^ Int.toNat 30), .int (-(10 ^ Int.toNat 20))] : List V)[j]? = some y → ∃ w, It1 (mask D H1) y w := fun j y hy => by
      match j, hy with
      | 0, hy => cases hy; exact ⟨_, .int _⟩
      | 1, hy => cases hy; exact ⟨_, .int _⟩
      | 2, hy => cases hy; exact ⟨_, .int _⟩
      | 3, hy => cases hy; exact ⟨_, .int _⟩
      | 4, hy => cases hy; exact ⟨_, .int _⟩
      | 5, hy => cases hy; exact ⟨_, .bl _⟩
      | 6, hy => cases hy; exact ⟨_, .non⟩
      | 7, hy => cases hy; exact ⟨_, .str _ so⟩
      | 8, hy => cases hy; exact ⟨_, .tup (l := [n]) (mask_at et tD)⟩
      | 9, hy => cases hy; exact ⟨_, .lst (l := [n]) (mask_at el liD)⟩
      | 10, hy => cases hy; exact ⟨_, .int _⟩
      | 11, hy => cases hy; exact ⟨_, .int _⟩
    have len : ([.int (n + 1), .int (n - 1), .int 0, .int (-1), .int ((l.length : Int) + 1), .bl true, .non, .str (toString n : Str), .ref t, .ref li, .int (10 ^ Int.toNat 30), .int (-(10 ^ Int.toNat 20))] : List V).length = 12 := rfl
    generalize ([.int (n + 1), .int (n - 1), .int 0, .int (-1), .int ((l.length : Int) + 1), .bl true, .non, .str (toString n : Str), .ref t, .ref li, .int (10 ^ Int.toNat 30), .int (-(10 ^ Int.toNat 20))] : List V) = OD at *
    -- one thing otherwise; one out
    refine ⟨_, rfl, _, rfl, _, rfl, ?_⟩
    refine take_g (sqt_same hS s1) (by omega) fun H2 p2 s2 e2 => ?_
    refine ⟨_, rfl, _, rfl, _, rfl, _, _, rfl, rfl, c, at' + 2, 12, rfl, by omega, by omega, by decide, by decide, fun dr d0 d1 => ?_⟩
    obtain ⟨j, rfl⟩ : ∃ j : Nat, dr = (j : Int) := ⟨dr.toNat, by omega⟩
    have hj : j < OD.length := by omega
    obtain ⟨w1, i1⟩ := odd j _ (List.getElem?_eq_getElem hj)
    refine ⟨od, _, _, _, rfl, rfl, SqL.of (s2 _ _ eo), at_of (j := j) rfl (List.getElem?_eq_getElem hj), sz 1, fun t3 nt3 => ?_⟩
    generalize OD[j] = y1 at *
    have s3 := same_new (o := .tup [y1]) nt3
    refine cat_g (sqt_same e2 s3) (SqT.of upd_same) (by rw [List.length_take, hl]; show min k l.length + 1 ≤ 1000; omega) fun H4 p4 s4 e4 => ?_
    have s14 : Same H1 H4 := (s2.trans s3).trans s4
    refine ⟨_, rfl, _, rfl, _, _, rfl, rfl, _, rfl, ?_⟩
    dsimp only [tNoPart]
    rw [show (k : Int) + 1 = ((k + 1 : Nat) : Int) by omega]
    refine drop_g (sqt_same hS (s1.trans s14)) (by omega) fun H5 p5 s5 e5 => ?_
    refine cat_g (sqt_same e4 s5) e5 (by rw [List.length_append, List.length_take, List.length_drop, hl]; show min k l.length + 1 + (l.length - (k + 1)) ≤ 1000; omega) fun H6 q1 s6 f1 => ?_
    have s16 : Same H1 H6 := (s14.trans s5).trans s6
    have T1 : TD K (mask D H6) (.ref q1) _ := TD.mix (a := l.take k) (b := l.drop (k + 1)) (by rw [List.map_take, List.map_drop]; exact sqt_mask f1 (s1.trans s16) hD) (i1.ext (mx s16)) (by rw [List.length_take, List.length_drop]; omega)
    refine ⟨_, rfl, _, rfl, _, rfl, ?_⟩
    refine take_g (sqt_same hS (s1.trans s16)) (by omega) fun H7 p7 s7 e7 => ?_
    refine ⟨_, rfl, _, rfl, _, _, rfl, rfl, _, rfl, ?_⟩
    dsimp only [tNoPart]
    rw [show (k : Int) + 1 = ((k + 1 : Nat) : Int) by omega]
    refine drop_g (sqt_same hS ((s1.trans s16).trans s7)) (by omega) fun H8 p8 s8 e8 => ?_
    refine cat_g (sqt_same e7 s8) e8 (by rw [List.length_take, List.length_drop, hl]; omega) fun H9 q2 s9 f2 => ?_
    have T2 : TD K (mask D H9) (.ref q2) _ := TD.of (l := l.take k ++ l.drop (k + 1)) (by rw [List.map_append, List.map_take, List.map_drop]; exact sqt_mask f2 ((((s1.trans s16).trans s7).trans s8).trans s9) hD) (by rw [List.length_append, List.length_take, List.length_drop]; omega)
    refine ⟨sz 2, fun n0 nn0 => ?_⟩
    have s10 := same_new (o := .lst [.ref q1, .ref q2]) nn0
    have e10 : (upd H9 n0 (.lst [.ref q1, .ref q2])) n0 = some (.lst [.ref q1, .ref q2]) := upd_same
    have sA : Same H (upd H9 n0 (.lst [.ref q1, .ref q2])) := ((((s1.trans s16).trans s7).trans s8).trans s9).trans s10
    have T1 := T1.ext (mx (((s7.trans s8).trans s9).trans s10))
    have T2 := T2.ext (mx s10)
    generalize upd H9 n0 (.lst [.ref q1, .ref q2]) = G0 at *
    -- twice; of other kinds
    refine ⟨_, rfl, _, rfl, _, rfl, _, rfl, ?_⟩
    refine take_g (sqt_same hS sA) (by omega) fun H11 p11 s11 e11 => ?_
    refine ⟨_, rfl, sz 1, fun t12 n12 => ?_⟩
    have s12 := same_new (o := .tup [.int n]) n12
    refine cat_g (sqt_same e11 s12) (SqT.of upd_same) (by rw [List.length_take, hl]; show min k l.length + 1 ≤ 1000; omega) fun H13 p13 s13 e13 => ?_
    have sB : Same G0 H13 := (s11.trans s12).trans s13
    refine ⟨_, rfl, _, rfl, _, rfl, ?_⟩
    dsimp only [tNoPart]
    refine drop_g (sqt_same hS (sA.trans sB)) (by omega) fun H14 p14 s14' e14 => ?_
    refine cat_g (sqt_same e13 s14') e14 (by rw [List.length_append, List.length_take, List.length_drop, hl]; show min k l.length + 1 + (l.length - k) ≤ 1000; omega) fun H15 q3 s15 f3 => ?_
    have T3 : TD K (mask D H15) (.ref q3) _ := TD.mix (a := l.take k) (b := l.drop k) (y := .int n) (by rw [List.map_take, List.map_drop]; exact sqt_mask f3 (sA.trans ((sB.trans s14').trans s15)) hD) (.int n) (by rw [List.length_take, List.length_drop]; omega)
    have sC : Same G0 H15 := (sB.trans s14').trans s15
    refine ⟨_, rfl, p, _, rfl, .inr (sqt_same hS (sA.trans sC)), fun q4 n4 => ?_⟩
    have s16' := same_new (o := .lst (l.map V.int)) n4
    have T4 : TD K (mask D (upd H15 q4 (.lst (l.map V.int)))) (.ref q4) none := .other (.base (.lst (mask_new n4 (sA.trans sC) hD))) (by decide) (by decide)
    refine ⟨_, rfl, p, _, rfl, sqt_same hS ((sA.trans sC).trans s16'), fun q5 n5 => ?_⟩
    have s17 := same_new (o := .tup (l.map V.int).reverse) n5
    have T5 : TD K (mask D (upd (upd H15 q4 (.lst (l.map V.int))) q5 (.tup (l.map V.int).reverse))) (.ref q5) _ := TD.of (l := l.reverse) (SqT.of (by rw [mask_new n5 ((sA.trans sC).trans s16') hD, List.map_reverse])) (by rw [List.length_reverse]; omega)
    have T4 := T4.ext (mx s17)
    have sD := (sC.trans s16').trans s17
    generalize upd (upd H15 q4 (.lst (l.map V.int))) q5 (.tup (l.map V.int).reverse) = G1 at *
    have T3 := T3.ext (mx (s16'.trans s17))
    refine ⟨_, rfl, sz 1, fun q6 n6 => ?_⟩
    have s18 := same_new (o := .tup [.ref p]) n6
    have T6 : TD K (mask D (upd G1 q6 (.tup [.ref p]))) (.ref q6) (some [none]) := by
      obtain ⟨ob, _, ez⟩ := hZ
      refine .tup (SqT.of (mask_new n6 (sA.trans sD) hD)) rfl (by show 1 ≤ 100; decide) fun i y w h1 h2 => ?_
      match i, h1, h2 with
      | 0, h1, h2 => cases h1; cases h2; exact .frz (l := l) (mask_at (((sA.trans sD).trans s18) _ _ ez) pD)
    intro q7 n7
    have s19 := same_new (o := .dK []) n7
    have T7 : TD K (mask D (upd (upd G1 q6 (.tup [.ref p])) q7 (.dK []))) (.ref q7) none := .other (.base (.dK (mask_new n7 ((sA.trans sD).trans s18) hD))) (by decide) (by decide)
    refine ⟨sz 0, fun q8 n8 => ?_⟩
    have s20 := same_new (o := .tup []) n8
    have T8 : TD K (mask D (upd (upd (upd G1 q6 (.tup [.ref p])) q7 (.dK [])) q8 (.tup []))) (.ref q8) (some []) := .tup (SqT.of (mask_new n8 (((sA.trans sD).trans s18).trans s19) hD)) rfl (by decide) fun i y w h1 _ => by cases h1
    have sE := ((sD.trans s18).trans s19).trans s20
    have T1 := T1.ext (mx sE)
    have T2 := T2.ext (mx sE)
    have T3 := T3.ext (mx ((s18.trans s19).trans s20))
    have T4 := T4.ext (mx ((s18.trans s19).trans s20))
    have T5 := T5.ext (mx ((s18.trans s19).trans s20))
    have T6 := T6.ext (mx (s19.trans s20))
    have T7 := T7.ext (mx s20)
    generalize upd (upd (upd G1 q6 (.tup [.ref p])) q7 (.dK [])) q8 (.tup []) = G2 at *
    refine ⟨sz 9, fun n1 nn1 => ?_⟩
    have s21 := same_new (o := .lst [.ref q3, .ref q4, .ref q5, .ref q6, .non, .str "12", .ref q7, .int 3, .ref q8]) nn1
    refine ⟨n0, n1, _, _, rfl, rfl, s21 _ _ (sE _ _ e10), upd_same, sz 11, fun n2 nn2 => ?_⟩
    have s22 := same_new (o := .lst ([.ref q1, .ref q2] ++ [.ref q3, .ref q4, .ref q5, .ref q6, .non, .str "12", .ref q7, .int 3, .ref q8])) nn2
    have e22 : (upd (upd G2 n1 (.lst [.ref q3, .ref q4, .ref q5, .ref q6, .non, .str "12", .ref q7, .int 3, .ref q8])) n2 (.lst ([.ref q1, .ref q2] ++ [.ref q3, .ref q4, .ref q5, .ref q6, .non, .str "12", .ref q7, .int 3, .ref q8]))) n2 = some (.lst ([.ref q1, .ref q2] ++ [.ref q3, .ref q4, .ref q5, .ref q6, .non, .str "12", .ref q7, .int 3, .ref q8])) := upd_same
    have sF := (sE.trans s21).trans s22
    have k22 := mx (D := D) (s21.trans s22)
    have T1 := T1.ext k22
    have T2 := T2.ext k22
    have T3 := T3.ext k22
    have T4 := T4.ext k22
    have T5 := T5.ext k22
    have T6 := T6.ext k22
    have T7 := T7.ext k22
    have T8 := T8.ext k22
    generalize upd (upd G2 n1 (.lst [.ref q3, .ref q4, .ref q5, .ref q6, .non, .str "12", .ref q7, .int 3, .ref q8])) n2 (.lst ([.ref q1, .ref q2] ++ [.ref q3, .ref q4, .ref q5, .ref q6, .non, .str "12", .ref q7, .int 3, .ref q8])) = G3 at *
    have sG := sA.trans sF
    -- two exchanged
    refine ⟨_, rfl, p, _, rfl, .inr (sqt_same hS sG), fun sw nsw => ?_⟩
    have s23 := same_new (o := .lst (l.map V.int)) nsw
    refine ⟨_, rfl, _, rfl, _, _, rfl, rfl, _, rfl, c, at' + 3, (l.length : Int), rfl, by omega, by omega, by omega, by omega, fun so2 x0 x1 => ?_⟩
    obtain ⟨k2, rfl⟩ : ∃ k2 : Nat, so2 = (k2 : Int) := ⟨so2.toNat, by omega⟩
    have hk2 : k2 < l.length := by omega
    refine ⟨_, rfl, _, rfl, sw, _, _, _, rfl, rfl, SqL.of upd_same, at_of (j := k2) rfl (getI hk2), _, rfl, _, rfl, sw, _, _, _, rfl, rfl, SqL.of upd_same, at_of (j := k) rfl (getI hk), sz 2, fun t24 n24 => ?_⟩
    have s24 := same_new (o := .tup [.int (l.getD k2 0), .int (l.getD k 0)]) n24
    refine ⟨t24, _, rfl, SqT.of upd_same, rfl, ?_⟩
    refine ⟨_, _, rfl, _, rfl, _, rfl, sw, _, _, k, rfl, rfl, s24 _ _ upd_same, ixN_of (by rw [List.length_map]; exact hk), ?_⟩
    refine ⟨_, _, rfl, _, rfl, _, rfl, sw, _, _, k2, rfl, rfl, upd_same, ixN_of (by rw [List.length_set, List.length_map]; exact hk2), rfl, ?_⟩
    have sH : Same G3 (upd (upd (upd (upd G3 sw (.lst (l.map V.int))) t24 (.tup [.int (l.getD k2 0), .int (l.getD k 0)])) sw (.lst ((l.map V.int).set k (.int (l.getD k2 0))))) sw (.lst (((l.map V.int).set k (.int (l.getD k2 0))).set k2 (.int (l.getD k 0))))) := same_set (same_set (s23.trans s24) nsw) nsw
    have eB : (((l.map V.int).set k (.int (l.getD k2 0))).set k2 (.int (l.getD k 0))) = (swp2 l k k2).map V.int := by
      unfold swp2
      rw [List.map_set, List.map_set]
    have eH : (upd (upd (upd (upd G3 sw (.lst (l.map V.int))) t24 (.tup [.int (l.getD k2 0), .int (l.getD k 0)])) sw (.lst ((l.map V.int).set k (.int (l.getD k2 0))))) sw (.lst (((l.map V.int).set k (.int (l.getD k2 0))).set k2 (.int (l.getD k 0))))) sw = some (.lst ((swp2 l k k2).map V.int)) := by rw [upd_same, eB]
    have hL : (swp2 l k k2).length = l.length := by unfold swp2; rw [List.length_set, List.length_set]
    generalize (upd (upd (upd (upd G3 sw (.lst (l.map V.int))) t24 (.tup [.int (l.getD k2 0), .int (l.getD k 0)])) sw (.lst ((l.map V.int).set k (.int (l.getD k2 0))))) sw (.lst (((l.map V.int).set k (.int (l.getD k2 0))).set k2 (.int (l.getD k 0))))) = G4 at *
    have kH := mx (D := D) sH
    have e22 := sH _ _ e22
    have T1 := T1.ext kH
    have T2 := T2.ext kH
    have T3 := T3.ext kH
    have T4 := T4.ext kH
    have T5 := T5.ext kH
    have T6 := T6.ext kH
    have T7 := T7.ext kH
    have T8 := T8.ext kH
    have sI := sG.trans sH
    refine ⟨_, rfl, _, rfl, sw, _, rfl, .inl ⟨SqL.of eH, fun q9 n9 => ?_⟩⟩
    have s25 := same_new (o := .tup ((swp2 l k k2).map V.int)) n9
    have T9 : TD K (mask D (upd G4 q9 (.tup ((swp2 l k k2).map V.int)))) (.ref q9) _ := TD.of (l := swp2 l k k2) (SqT.of (mask_new n9 sI hD)) (by omega)
    refine ⟨_, rfl, p, rfl, ⟨_, sqt_same hS (sI.trans s25)⟩, fun D2 nD => ?_⟩
    generalize upd G4 q9 (.tup ((swp2 l k k2).map V.int)) = G5 at *
    have sJ := sI.trans s25
    refine lc_tup (K := K) (xs := l.map V.int) (fun j H3 => Same G5 H3 ∧ H3 D2 = some (.lst (((l.take j).map fun x => x - 1).map V.int))) ⟨same_new nD, upd_same⟩ (fun j H3 _ ⟨s3, _⟩ => sqt_same hS (sJ.trans s3)) ?_ ?_
    · rintro j x H3 hx ⟨s3, eD⟩
      obtain ⟨z, hz, rfl⟩ := get_ints hx
      refine ⟨rfl, _, rfl, _, _, rfl, rfl, _, eD, small_n (by rw [List.length_map, List.length_map, List.length_take]; omega), same_set s3 nD, ?_⟩
      rw [upd_same, List.take_add_one, hz, List.map_append, List.map_append]; rfl
    rintro G6 ⟨s26, eD⟩
    rw [hl, List.take_length] at eD
    refine ⟨D2, _, rfl, .inl ⟨SqL.of eD, fun q10 n10 => ?_⟩⟩
    have s27 := same_new (o := .tup ((l.map fun x => x - 1).map V.int)) n10
    have T10 : TD K (mask D (upd G6 q10 (.tup ((l.map fun x => x - 1).map V.int)))) (.ref q10) _ := TD.of (l := l.map fun x => x - 1) (SqT.of (mask_new n10 (sJ.trans s26) hD)) (by rw [List.length_map]; omega)
    generalize upd G6 q10 (.tup ((l.map fun x => x - 1).map V.int)) = G7 at *
    have sK := (sJ.trans s26).trans s27
    refine ⟨_, rfl, _, rfl, _, _, rfl, rfl, sz 1, fun t11 n11 => ?_⟩
    have s28 := same_new (o := .tup [.int ((l.length : Int) + 1)]) n11
    refine cat_g (sqt_same hS (sK.trans s28)) (SqT.of upd_same) (by rw [hl]; show l.length + 1 ≤ 1000; omega) fun G8 q11 s29 f11 => ?_
    have s2829' := s28.trans s29
    have T11 : TD K (mask D G8) (.ref q11) _ := TD.of (l := l ++ [(l.length : Int) + 1]) (by rw [List.map_append]; exact sqt_mask f11 (sK.trans s2829') hD) (by rw [List.length_append]; show l.length + 1 ≤ 100; omega)
    have s2829 := s28.trans s29
    have k1 := mx (D := D) (((s25.trans s26).trans s27).trans s2829)
    have k2' := mx (D := D) ((s26.trans s27).trans s2829)
    have T9 := T9.ext k2'
    have T10 := T10.ext (mx s2829)
    have e22 := s2829 _ _ (s27 _ _ (s26 _ _ (s25 _ _ e22)))
    refine ⟨sz 3, fun n3 nn3 => ?_⟩
    have s30 := same_new (o := .lst [.ref q9, .ref q10, .ref q11]) nn3
    refine ⟨n2, n3, _, _, rfl, rfl, s30 _ _ e22, upd_same, sz 14, fun n4' nn4 => ?_⟩
    have s31 := same_new (o := .lst ([.ref q1, .ref q2] ++ [.ref q3, .ref q4, .ref q5, .ref q6, .non, .str "12", .ref q7, .int 3, .ref q8] ++ [.ref q9, .ref q10, .ref q11])) nn4
    refine ⟨_, rfl, sz 19, fun n5' nn5 => ?_⟩
    have s32 := same_new (o := .lst [.int 0, .int 0, .int 0, .int 0, .int 1, .int 2, .int 3, .int 4, .int 5, .int 6, .int 7, .int 8, .int 9, .int 10, .int 11, .int 11, .int 11, .int 12, .int 13]) nn5
    have e31 := s32 _ _ (upd_same (H := upd G8 n3 (.lst [.ref q9, .ref q10, .ref q11])) (a := n4') (o := .lst ([.ref q1, .ref q2] ++ [.ref q3, .ref q4, .ref q5, .ref q6, .non, .str "12", .ref q7, .int 3, .ref q8] ++ [.ref q9, .ref q10, .ref q11])))
    have sL : Same G8 _ := (s30.trans s31).trans s32
    have sM : Same H _ := (sK.trans s2829).trans sL
    have kk := k1.trans (mx sL)
    have T1 := T1.ext kk
    have T2 := T2.ext kk
    have T3 := T3.ext kk
    have T4 := T4.ext kk
    have T5 := T5.ext kk
    have T6 := T6.ext kk
    have T7 := T7.ext kk
    have T8 := T8.ext kk
    have T9 := T9.ext (mx sL)
    have T10 := T10.ext (mx sL)
    have T11 := T11.ext (mx sL)
    have all : ∀ (m : Nat) (y : V), (([.ref q1, .ref q2] ++ [.ref q3, .ref q4, .ref q5, .ref q6, .non, .str "12", .ref q7, .int 3, .ref q8] ++ [.ref q9, .ref q10, .ref q11]) : List V)[m]? = some y → ∃ d, TD K (mask D _) y d := fun m y hy => by
      match m, hy with
      | 0, hy => cases hy; exact ⟨_, T1⟩
      | 1, hy => cases hy; exact ⟨_, T2⟩
      | 2, hy => cases hy; exact ⟨_, T3⟩
      | 3, hy => cases hy; exact ⟨_, T4⟩
      | 4, hy => cases hy; exact ⟨_, T5⟩
      | 5, hy => cases hy; exact ⟨_, T6⟩
      | 6, hy => cases hy; exact ⟨_, .other (.base .non) (by decide) (by decide)⟩
      | 7, hy => cases hy; exact ⟨_, .other (.base (.str _)) (by decide) (by decide)⟩
      | 8, hy => cases hy; exact ⟨_, T7⟩
      | 9, hy => cases hy; exact ⟨_, .other (.base (.int _)) (by decide) (by decide)⟩
      | 10, hy => cases hy; exact ⟨_, T8⟩
      | 11, hy => cases hy; exact ⟨_, T9⟩
      | 12, hy => cases hy; exact ⟨_, T10⟩
      | 13, hy => cases hy; exact ⟨_, T11⟩
    refine ⟨_, rfl, _, rfl, c, at', 19, rfl, by omega, by omega, by decide, by decide, fun r r0 r1 => ?_⟩
    obtain ⟨j9, rfl⟩ : ∃ j9 : Nat, r = (j9 : Int) := ⟨r.toNat, by omega⟩
    have idx : ∀ j, j < 19 → ([0, 0, 0, 0, 1, 2, 3, 4, 5, 6, 7, 8, 9, 10, 11, 11, 11, 12, 13] : List Nat).getD j 0 < 14 ∧ ([.int 0, .int 0, .int 0, .int 0, .int 1, .int 2, .int 3, .int 4, .int 5, .int 6, .int 7, .int 8, .int 9, .int 10, .int 11, .int 11, .int 11, .int 12, .int 13] : List V)[j]? = some (.int ((([0, 0, 0, 0, 1, 2, 3, 4, 5, 6, 7, 8, 9, 10, 11, 11, 11, 12, 13] : List Nat).getD j 0 : Nat) : Int)) := by decide
    obtain ⟨x1', x2'⟩ := idx j9 (by omega)
    generalize ([0, 0, 0, 0, 1, 2, 3, 4, 5, 6, 7, 8, 9, 10, 11, 11, 11, 12, 13] : List Nat).getD j9 0 = m9 at *
    have lf : (([.ref q1, .ref q2] ++ [.ref q3, .ref q4, .ref q5, .ref q6, .non, .str "12", .ref q7, .int 3, .ref q8] ++ [.ref q9, .ref q10, .ref q11]) : List V).length = 14 := rfl
    have ym := List.getElem?_eq_getElem (l := (([.ref q1, .ref q2] ++ [.ref q3, .ref q4, .ref q5, .ref q6, .non, .str "12", .ref q7, .int 3, .ref q8] ++ [.ref q9, .ref q10, .ref q11]) : List V)) (i := m9) (by rw [lf]; exact x1')
    obtain ⟨d9, T99⟩ := all m9 _ ym
    refine ⟨n5', _, _, _, rfl, rfl, SqL.of upd_same, at_of (j := j9) rfl x2', ?_⟩
    exact ⟨n4', _, _, _, rfl, rfl, SqL.of e31, at_of (j := m9) rfl ym, q _ _ d9 sM T99⟩

theorem ok_law_class (T : Txt K mg) : PinOkD P w K mg base 1 "_law_class" ["_law_error"] (spClass K) := by
  refine pindef_of T.d_law_class T.g_law_class (fun _ _ _ _ _ _ us hl => match us, hl with | [_], _ => rfl) fun fd F => ?_
  refine pin_of F sc_law_class (fun p vs H Q E h => ?_) (fun cdv A outer s H vs Q E p hr h => ?_)
  · obtain ⟨rfl, _⟩ := h; rfl
  · obtain ⟨rfl, C, j, wd, hz, hf, hC, hw, q⟩ := h
    refine ⟨_, (pss_cons (ps_if (PW.pt (pw_or (pt_not (pt_val (pe_callB (call_isPin hC.exc hz hf (List.mem_singleton.mpr rfl)) (by rfl) T.n_isinstance (by decide +kernel) (pa_cons (pv 0) (pa_cons (pe_glob (v := .ref (He.ga K "TurnError")) rfl T.g_TurnError rfl) pa_nil))))) (pw_or1 (pt_not (pt_val (pe_callB (call_isPin hC.exc hz hf (List.mem_singleton.mpr rfl)) (by rfl) T.n_isinstance (by decide +kernel) (pa_cons (pv 0) (pa_cons (pe_bltn (v := .ty "ValueError") (u := .type "ValueError") (by rfl) T.n_ValueError (by decide +kernel) rfl) pa_nil)))))))) (pss_one (ps_ret pe_str)) pss_nil)
 (pss_cons (ps_set (i := 1) sc_law_class.nd rfl (Or.inl rfl) (pe_lst (pa_cons (pe_callB (call_isPin hC.exc hz hf (List.mem_singleton.mpr rfl)) (by rfl) T.n_isinstance (by decide +kernel) (pa_cons (pv 0) (pa_cons (pe_glob (v := .ref (He.ga K "NoOrder")) rfl T.g_NoOrder rfl) pa_nil))) (pa_cons (pe_callB (call_isPin hC.exc hz hf (List.mem_singleton.mpr rfl)) (by rfl) T.n_isinstance (by decide +kernel) (pa_cons (pv 0) (pa_cons (pe_glob (v := .ref (He.ga K "NoNumber")) rfl T.g_NoNumber rfl) pa_nil))) (pa_cons (pe_callB (call_isPin hC.exc hz hf (List.mem_singleton.mpr rfl)) (by rfl) T.n_isinstance (by decide +kernel) (pa_cons (pv 0) (pa_cons (pe_glob (v := .ref (He.ga K "NoRow")) rfl T.g_NoRow rfl) pa_nil))) pa_nil)))))
 (pss_cons (ps_set (i := 1) sc_law_class.nd rfl (Or.inl rfl) (pe_op op_cat (pv 1) (pe_lst (pa_cons (pe_callB (call_isPin hC.exc hz hf (List.mem_singleton.mpr rfl)) (by rfl) T.n_isinstance (by decide +kernel) (pa_cons (pv 0) (pa_cons (pe_glob (v := .ref (He.ga K "NotUpDown")) rfl T.g_NotUpDown rfl) pa_nil))) (pa_cons (pe_callB (call_isPin hC.exc hz hf (List.mem_singleton.mpr rfl)) (by rfl) T.n_isinstance (by decide +kernel) (pa_cons (pv 0) (pa_cons (pe_glob (v := .ref (He.ga K "NoPattern")) rfl T.g_NoPattern rfl) pa_nil))) (pa_cons (pe_callB (call_isPin hC.exc hz hf (List.mem_singleton.mpr rfl)) (by rfl) T.n_isinstance (by decide +kernel) (pa_cons (pv 0) (pa_cons (pe_glob (v := .ref (He.ga K "NoTree")) rfl T.g_NoTree rfl) pa_nil))) pa_nil))))))
 (pss_cons (ps_set (i := 1) sc_law_class.nd rfl (Or.inl rfl) (pe_op op_cat (pv 1) (pe_lst (pa_cons (pe_callB (call_isPin hC.exc hz hf (List.mem_singleton.mpr rfl)) (by rfl) T.n_isinstance (by decide +kernel) (pa_cons (pv 0) (pa_cons (pe_glob (v := .ref (He.ga K "NoRing")) rfl T.g_NoRing rfl) pa_nil))) (pa_cons (pe_callB (call_isPin hC.exc hz hf (List.mem_singleton.mpr rfl)) (by rfl) T.n_isinstance (by decide +kernel) (pa_cons (pv 0) (pa_cons (pe_glob (v := .ref (He.ga K "NoText")) rfl T.g_NoText rfl) pa_nil))) (pa_cons (pe_callB (call_isPin hC.exc hz hf (List.mem_singleton.mpr rfl)) (by rfl) T.n_isinstance (by decide +kernel) (pa_cons (pv 0) (pa_cons (pe_glob (v := .ref (He.ga K "NoDeed")) rfl T.g_NoDeed rfl) pa_nil))) pa_nil))))))
 (pss_cons (ps_set (i := 1) sc_law_class.nd rfl (Or.inl rfl) (pe_op op_cat (pv 1) (pe_lst (pa_cons (pe_callB (call_isPin hC.exc hz hf (List.mem_singleton.mpr rfl)) (by rfl) T.n_isinstance (by decide +kernel) (pa_cons (pv 0) (pa_cons (pe_glob (v := .ref (He.ga K "NoLine")) rfl T.g_NoLine rfl) pa_nil))) (pa_cons (pe_callB (call_isPin hC.exc hz hf (List.mem_singleton.mpr rfl)) (by rfl) T.n_isinstance (by decide +kernel) (pa_cons (pv 0) (pa_cons (pe_glob (v := .ref (He.ga K "NoLoose")) rfl T.g_NoLoose rfl) pa_nil))) (pa_cons (pe_callB (call_isPin hC.exc hz hf (List.mem_singleton.mpr rfl)) (by rfl) T.n_isinstance (by decide +kernel) (pa_cons (pv 0) (pa_cons (pe_glob (v := .ref (He.ga K "NoFraction")) rfl T.g_NoFraction rfl) pa_nil))) pa_nil))))))
 (pss_cons (ps_if (pt_cmpR op_ne (pe_bm PySem.F.plainAttrs_list PySem.F.slot_list_count PySem.F.type_list_count mt_countF (pv 1) (pa_cons pe_bl pa_nil)) pe_int (nomark _)) (pss_one (ps_ret pe_str)) pss_nil)
 (pss_cons (ps_set (i := 2) sc_law_class.nd rfl (Or.inl rfl) (pe_lst (pa_cons pe_str (pa_cons pe_str (pa_cons pe_str (pa_cons pe_str (pa_cons pe_str (pa_cons pe_str (pa_cons pe_str (pa_cons pe_str (pa_cons pe_str pa_nil)))))))))))
 (pss_one (ps_ret (pe_ix (ixLK K) (pe_op op_cat (pv 2) (pe_lst (pa_cons pe_str (pa_cons pe_str (pa_cons pe_str pa_nil))))) (pe_bm PySem.F.plainAttrs_list PySem.F.slot_list_index PySem.F.type_list_index mt_index (pv 1) (pa_cons pe_bl pa_nil)) (fun _ _ => rfl))))))))))), ?_⟩
    refine ⟨_, rfl, _, _, _, rfl, fun _ r => r, hC.turn, _, rfl, iteF ?_⟩
    refine ⟨_, rfl, _, _, _, rfl, fun _ r => r, hC.val, _, rfl, iteF ?_⟩
    refine ⟨_, rfl, _, _, _, rfl, fun _ r => r, hC.each 0 _ rfl, _, rfl, _, _, _, rfl, fun _ r => r, hC.each 1 _ rfl, _, rfl, _, _, _, rfl, fun _ r => r, hC.each 2 _ rfl, sz 3, fun a0 n0 => ?_⟩
    refine ⟨_, rfl, _, rfl, _, _, _, rfl, fun _ r => r, hC.each 3 _ rfl, _, rfl, _, _, _, rfl, fun _ r => r, hC.each 4 _ rfl, _, rfl, _, _, _, rfl, fun _ r => r, hC.each 5 _ rfl, sz 3, fun a1 n1 => ?_⟩
    refine ⟨_, _, _, _, rfl, rfl, (same_new n1) _ _ upd_same, upd_same, sz 6, fun b1 m1 => ?_⟩
    refine ⟨_, rfl, _, rfl, _, _, _, rfl, fun _ r => r, hC.each 6 _ rfl, _, rfl, _, _, _, rfl, fun _ r => r, hC.each 7 _ rfl, _, rfl, _, _, _, rfl, fun _ r => r, hC.each 8 _ rfl, sz 3, fun a2 n2 => ?_⟩
    refine ⟨_, _, _, _, rfl, rfl, (same_new n2) _ _ upd_same, upd_same, sz 9, fun b2 m2 => ?_⟩
    refine ⟨_, rfl, _, rfl, _, _, _, rfl, fun _ r => r, hC.each 9 _ rfl, _, rfl, _, _, _, rfl, fun _ r => r, hC.each 10 _ rfl, _, rfl, _, _, _, rfl, fun _ r => r, hC.each 11 _ rfl, sz 3, fun a3 n3 => ?_⟩
    refine ⟨_, _, _, _, rfl, rfl, (same_new n3) _ _ upd_same, upd_same, sz 12, fun b3 m3 => ?_⟩
    have sA := ((((((same_new (o := .lst _) n0).trans (same_new (o := .lst _) n1)).trans (same_new (o := .lst _) m1)).trans (same_new (o := .lst _) n2)).trans (same_new (o := .lst _) m2)).trans (same_new (o := .lst _) n3)).trans (same_new (o := .lst (kindsAt j)) m3)
    refine ⟨_, rfl, .inl ⟨rfl, _, SqL.of upd_same⟩, b3, kindsAt j, .bl true, rfl, rfl, SqL.of upd_same, rfl, kinds_flat j, rfl, _, rfl, ?_⟩
    rw [kinds_count j hC.lt]
    refine iteF ?_
    refine ⟨sz 9, fun w1 o1 => ?_⟩
    have sB := sA.trans (same_new (o := .lst (words.map V.str)) o1)
    refine ⟨_, rfl, sz 3, fun w2 o2 => ?_⟩
    have sC := sB.trans (same_new (o := .lst (words2.map V.str)) o2)
    refine ⟨w1, w2, words.map V.str, words2.map V.str, rfl, rfl, (same_new o2) _ _ upd_same, upd_same, sz 12, fun w3 o3 => ?_⟩
    have sD := sC.trans (same_new (o := .lst (words.map V.str ++ words2.map V.str)) o3)
    have eb : (upd (upd (upd _ w1 (.lst (words.map V.str))) w2 (.lst (words2.map V.str))) w3 (.lst (words.map V.str ++ words2.map V.str))) b3 = some (.lst (kindsAt j)) := (same_new o3) _ _ ((same_new o2) _ _ ((same_new o1) _ _ upd_same))
    refine ⟨_, rfl, .inl ⟨rfl, _, SqL.of eb⟩, b3, kindsAt j, .bl true, j, .bl true, rfl, rfl, SqL.of eb, rfl, kinds_flat j, kinds_here j hC.lt, rfl, fun m z hm hm2 => ?_, ?_⟩
    · rw [kinds_ahead j hC.lt m hm] at hm2
      cases hm2
      rfl
    · refine ⟨w3, _, _, .str wd, rfl, rfl, SqL.of upd_same, atI_nat ?_, q _ sD⟩
      rw [← List.map_append, List.getElem?_map, hw]
      rfl

theorem ref_gives {X : Cx} {k : Nat} {gg : Addr} {cdg : Value} {qq : Str} (hr : Room (k + 2) X.A) (D : PinOkD X.prog X.w X.K X.mg X.base 1 "_law_class" ["_law_error"] (spClass X.K)) (hk : 1 ≤ k + 1) (gT : X.mg "TurnError" = some (.ref (He.ga X.K "TurnError"))) :
    LamX.GivesTo X N_law_refused "_law_refused" (defScope S_law_refused) gg cdg (defBody S_law_refused) "_law_call" qq (TRef X.K) := by
  intro f c' s H Q tl act hc h
  refine ⟨_, pss_cons (ps_set (i := 1) sc_law_refused.nd rfl (Or.inl rfl) pe_str) (pss_cons (ps_try_as (X := (cxOf C8.CX0 X.prog X.w X.K X.mg X.base N_law_refused "_law_refused" (defScope S_law_refused) gg cdg X.A X.stack s H C8.E0).nox) (i := 2) (c := .ref (He.ga X.K "TurnError"))
      (tb := fun W D σ H => ∃ E : XK, (∀ cls d σ' H', E cls d H' → σ'.length = 3 → W cls d σ' H') ∧ σ[0]? = some (some (.ref f)) ∧ H c' = some (LamX.CodeO c' qq) ∧ tl E H (fun _ H' => D.nx σ H'))
      (ts := fun a cls d => tAsg (tExc X.K 2 a cls d) (gName 1)) (Wout := fun _ _ _ _ => False) rfl rfl sc_law_refused.nd rfl rfl ⟨by rfl, by decide, .inl gT⟩ takes0 (fun W pn xe tk _ => ?_) (fun a oe cls d pn hz hf => ?_)) (pss_one (ps_ret (pv 1)))), ?_⟩
  · refine ⟨fun pins s' σ H' D I h' => ?_⟩
    obtain ⟨E, hE, h1, h2, h3⟩ := h'
    exact (pss_one (ps_expr (act (fun cls d σ H => σ.length = 3 → W cls d σ H) pn xe E _ _ (takes_len tk) hE))).run pins s' σ H' D I ⟨h1, h2, h3⟩
  · refine pss_one (ps_set (i := 1) sc_law_refused.nd rfl (Or.inl rfl) ?_)
    refine ⟨fun pins s' σ H' Q I h' => ?_⟩
    obtain ⟨e1, e2, C, j, wd, e3, hC, hw, hq⟩ := h'
    subst e2 e3
    exact (pe_callP (X := (cxOf C8.CX0 X.prog X.w X.K X.mg X.base N_law_refused "_law_refused" (defScope S_law_refused) gg cdg X.A X.stack s H C8.E0).nox.suite a ((a, oe) :: pn)) (sp := spClass X.K) (E := E0) (q := (a, oe)) D (roomH_mark ((hr.deeper _).mono hk)) List.mem_cons_self (by rfl) (pa_cons (pv 2) pa_nil)).run pins s' σ H' Q I ⟨_, e1, rfl, C, j, wd, hz, hf, hC, hw, hq⟩
  · refine ⟨fun cls d H' => d = none ∧ ∃ C j wd, cls = .ref C ∧ ClassIs X.K C j ∧ (words ++ words2)[j]? = some wd ∧ ∀ H'', Same H' H'' → Q (.str wd) H'', ?_, rfl, hc, ?_⟩
    · rintro cls d σ' H' ⟨e2, C, j, wd, e3, hC, hw, hq⟩ hl
      match σ', hl with
      | [x, y, z], _ =>
        subst e3
        exact ⟨true, hC.caught, fun _ a na => ⟨rfl, e2, C, j, wd, rfl, hC, hw, fun H'' sm => ⟨_, rfl, hq H'' sm⟩⟩, fun z => nomatch z⟩
    · exact h

theorem pe_refusedL {X : Cx} {k : Nat} {c Pt : Addr} {t : XK → TE} {params : Arguments} {body : Expr} {scope : Scope} {p lpos pos : Pos} (d : ∃ fd, FnT X.K "_law_refused" S_law_refused fd) (g : X.mg "_law_refused" = some (.ref (He.ga X.K "_law_refused"))) (D : PinOkD X.prog X.w X.K X.mg X.base 1 "_law_class" ["_law_error"] (spClass X.K))
    (gT : X.mg "TurnError" = some (.ref (He.ga X.K "TurnError"))) (TB : LamX.TabB X.base X.mg c Pt) (hr : Room (k + 2) X.A) (hcode : X.env.code = .ref c)
    (hbody : ∀ (A : Around) (outer : List Env) (s : Shared) (H : Hp) (E : XK) (f c' : Addr), Room k (A.deeper (LamX.lamEnv X scope s.heap.objs.size f c')) → PE (LamX.lamCx X A outer s H E scope f c') body (t E))
    (hg : Gl X "_law_refused" := by rfl) (L : LamX.LamS X.env.scope scope := by exact LamX.lamS_by (by decide +kernel)) (hdef : defaultsOf params X.env = ([], []) := by rfl)
    (hbind : ∀ (q : Str) (cl : List (Str × Addr)) (pm cv ctv : Value), bindArgs (PySem.W.kla_fn "<lambda>" q params body scope cl pm cv ctv) ⟨[], []⟩ = pure [] := by exact fun _ _ _ _ _ => rfl) :
    PE X (.Call (.Name "_law_refused" p) [.Lambda params body scope lpos] [] pos) (tLamL Pt (X.env.qual ++ "<lambda>") (TRef X.K) t) := by
  obtain ⟨fd, F⟩ := d
  have hb := F.bindsN (ps := ["_law_call"]) (fun _ _ _ _ _ _ us hl => match us, hl with | [_], _ => rfl)
  obtain ⟨oc, od, dV, kV, doc, pm, an, cdv, ct, osl, rfl, lk, hcd, _, _⟩ := F.ex
  exact pe_lamcallL hg g F.kp lk hcd hb sc_law_refused rfl (Or.inl rfl) (ref_gives hr D (Nat.le_add_left 1 k) gT) TB hcode hr L hdef hbind hbody

structure Gw (Ps : List Addr) (H H' : Hp) : Prop where
  ext : LamX.ExtN H H'
  tab : TG Ps H'
theorem Gw.refl {Ps : List Addr} {H : Hp} (t : TG Ps H) : Gw Ps H H := ⟨LamX.ExtN.refl _, t⟩
theorem Gw.trans {Ps : List Addr} {H H1 H2 : Hp} (a : Gw Ps H H1) (b : Gw Ps H1 H2) : Gw Ps H H2 := ⟨a.ext.trans b.ext, b.tab⟩
theorem Gw.go {Ps : List Addr} {H H1 H2 : Hp} (a : Gw Ps H H1) (b : Go Ps H1 H2) : Gw Ps H H2 := ⟨a.ext.trans b.ext, b.tab⟩
theorem Gw.same {Ps : List Addr} {H H1 H2 : Hp} (a : Gw Ps H H1) (s : Same H1 H2) : Gw Ps H H2 := ⟨a.ext.trans (Same.ext s), a.tab.same s⟩
theorem Gw.lone {Ps : List Addr} {H H1 H2 : Hp} {P : Addr} {q : Str} (a : Gw Ps H H1) (b : Lone P H1 H2) (t : LamX.TabS H1 P q) (n : P ∉ Ps) : Gw Ps H H2 := ⟨a.ext.trans (b.ext t), b.tg a.tab n⟩
theorem tabS_go {Ps : List Addr} {H H' : Hp} {P : Addr} {q : Str} (a : Go Ps H H') (t : LamX.TabS H P q) (n : P ∉ Ps) : LamX.TabS H' P q := by
  have z : LamX.Tabs [(P, q)] H' := a.tabs (Ts := [(P, q)]) (fun p hp => by rw [List.mem_singleton.mp hp]; exact t) (fun p hp => by rw [List.mem_singleton.mp hp]; exact n)
  exact z _ List.mem_cons_self
def spBadO (K : PySem.W.Frag) (C : Addr) : Sp := fun vs H _ E => ∃ (x : V) (d : Option (List (Option Int))), vs = [x] ∧ TD K H x d ∧ ordB d = false ∧ TG (Ps K) H ∧ ∀ H', Go (Ps K) H H' → E (.ref C) none H'
def oth (l : List Int) (j : Nat) : List Int := (rng l.length).map fun x => if idxN x l < j then ((idxN x l : Nat) : Int) + 1 else 0
theorem oth_len (l : List Int) (j : Nat) : (oth l j).length = l.length := by unfold oth; rw [List.length_map, rng_len]
theorem oth_zero (l : List Int) : oth l 0 = List.replicate l.length 0 := by
  refine List.eq_replicate_iff.mpr ⟨oth_len l 0, fun b hb => ?_⟩
  unfold oth at hb
  obtain ⟨x, _, rfl⟩ := List.mem_map.mp hb
  rw [if_neg (Nat.not_lt_zero _)]
theorem oth_at {l : List Int} {j i : Nat} (h : i < l.length) : (oth l j)[i]? = some (if idxN (1 + (i : Int)) l < j then ((idxN (1 + (i : Int)) l : Nat) : Int) + 1 else 0) := by
  unfold oth
  rw [List.getElem?_map, rng_at h]; rfl
theorem oth_succ {l : List Int} (o : Ord l) {j : Nat} {z : Int} (hz : l[j]? = some z) : oth l (j + 1) = (oth l j).set (z - 1).toNat ((j : Int) + 1) := by
  obtain ⟨z1, z2⟩ := o.mem.mp (List.mem_of_getElem? hz)
  have hj := idxN_is o.nodup hz
  refine List.ext_getElem? fun i => ?_
  by_cases h : i < l.length
  · by_cases e : (z - 1).toNat = i
    · subst e
      rw [oth_at h, List.getElem?_set_self (by rw [oth_len]; exact h), show 1 + (((z - 1).toNat : Nat) : Int) = z by omega, hj, if_pos (by omega)]
    · rw [List.getElem?_set_ne e, oth_at h, oth_at h]
      have ne : idxN (1 + (i : Int)) l ≠ j := fun k => by
        obtain ⟨i1, _⟩ := idxN_at (x := 1 + (i : Int)) (s := l) (o.mem.mpr ⟨by omega, by omega⟩)
        rw [k, hz] at i1
        have := Option.some.inj i1
        omega
      by_cases c : idxN (1 + (i : Int)) l < j
      · rw [if_pos c, if_pos (by omega)]
      · rw [if_neg c, if_neg (by omega)]
  · rw [List.getElem?_eq_none (by rw [oth_len]; omega), List.getElem?_eq_none (by rw [List.length_set, oth_len]; omega)]
theorem oth_all {l : List Int} (o : Ord l) : oth l l.length = conL l := by
  unfold oth conL
  refine List.map_congr_left fun x hx => ?_
  have m := mem_rng.mp hx
  obtain ⟨i1, _⟩ := idxN_at (x := x) (s := l) (o.mem.mpr m)
  rw [if_pos (List.getElem?_eq_some_iff.mp i1).1]
def triD (a b c : List Int) : PyData := .list [tupD a, tupD b, tupD c]
theorem lay_tri (a b c : List Int) : PyData.canLay0 (triD a b c) = true := by
  show (PyData.canLay0 (tupD a) && (PyData.canLay0 (tupD b) && (PyData.canLay0 (tupD c) && true))) = true
  rw [lay_tup, lay_tup, lay_tup]; rfl
theorem shaped_tri (a b c : List Int) : SeqAt.shaped (triD a b c) = true := by
  have d : ∀ l : List Int, PyData.depth (tupD l) = 1 := fun l => by
    show PyData.depthAll (l.map PyData.int) + 1 = 1
    rw [depth_ints]
  show (PyData.canLay0 (triD a b c) && decide (max (PyData.depth (tupD a)) (max (PyData.depth (tupD b)) (max (PyData.depth (tupD c)) 0)) + 1 ≤ 64)) = true
  rw [lay_tri, d, d, d]; rfl
theorem eqv_tri (a b c : List Int) : PyData.eqv (triD a b c) (triD a b c) = true := SeqAt.eqv_refl _ (lay_tri a b c)
theorem dp_tri {K : PySem.W.Frag} {H : Hp} {p x y z : Addr} {a b c : List Int} (e : SqL K H p [.ref x, .ref y, .ref z]) (ha : SqT K H x (a.map V.int)) (hb : SqT K H y (b.map V.int)) (hc : SqT K H z (c.map V.int)) : Dp K H (.ref p) (triD a b c) :=
  .lst e (.cons (dp_tup ha) (.cons (dp_tup hb) (.cons (dp_tup hc) .nil)))
def spLaw5 (K : PySem.W.Frag) (Pt : Addr) : Sp := fun vs H Q _ => ∃ (a : Addr) (ns : List Int), vs = [.ref a] ∧ ns.length ≤ 63 ∧ SqL K H a (ns.map V.int) ∧ H Pt = some (.tbl #[]) ∧ TG (Ps K) H ∧ ∀ H', Q (.bl true) H'
theorem ok_law (T : Txt K mg) (B : TBs K mg base) {fd : FuncData} (F : FnT K "law" S_law fd) (TB : LamX.TabB base mg (He.cT K ("law", none)).1 (He.cT K ("law", none)).2) : FnOk P w K mg base CX0 12 (He.ga K "law") fd ["_law_script"] (spLaw5 K (He.cT K ("law", none)).2) := by
  have D_law_cell_at : DefOk P w K mg base CX0 1 "_law_cell_at" ["_law_script", "_law_k"] (spCellAt K) := ok_law_cell_at T
  have D_law_draw : DefOk P w K mg base CX0 1 "_law_draw" ["_law_cell", "_law_k", "_law_bound"] spDraw := ok_law_draw T
  have D_law_order : DefOk P w K mg base CX0 2 "_law_order" ["_law_cell", "_law_at", "_law_most"] spLawOrder := ok_law_order T
  have D_law_is_order : DefOk P w K mg base CX0 1 "_law_is_order" ["_law_thing"] (spLawThing K ordB) := ok_law_is_order T
  have D_law_bent : DefOk P w K mg base CX0 2 "_law_bent" ["_law_cell", "_law_at", "_law_some"] (spBent K) := ok_law_bent T
  have D_law_class : PinOkD P w K mg base 1 "_law_class" ["_law_error"] (spClass K) := ok_law_class T
  have D_turned_over : DefOk P w K mg base (L2.CX P w) 5 "turned_over" ["order"] (spTurn K (He.ga K "NoOrder") overL) := ok_turned_over T B
  have D_backward : DefOk P w K mg base (L2.CX P w) 5 "backward" ["order"] (spTurn K (He.ga K "NoOrder") List.reverse) := ok_backward T B
  have D_contrary : DefOk P w K mg base (L2.CX P w) 5 "contrary" ["order"] (spTurn K (He.ga K "NoOrder") conL) := ok_contrary T B
  have HELD : ∀ f ∈ [He.ga K "turned_over", He.ga K "backward", He.ga K "contrary"], HeldX P w K mg base 5 (spBadO K (He.ga K "NoOrder")) f := fun f hf => by
    simp only [List.mem_cons, List.not_mem_nil, or_false] at hf
    rcases hf with e | e | e
    · rw [e]; exact held_of D_turned_over (by decide) fun vs H Q E h => Or.inr h
    · rw [e]; exact held_of D_backward (by decide) fun vs H Q E h => Or.inr h
    · rw [e]; exact held_of D_contrary (by decide) fun vs H Q E h => Or.inr h
  obtain ⟨oc, od, dV, kV, doc, pm, an, cdv, ct, osl, rfl, lk, hcd, _, _⟩ := F.ex
  obtain ⟨c0, rfl⟩ := He.codeIn_ref hcd
  have ec : He.codeOf K ("law", none) = c0 := He.codeOf_eq lk rfl
  have hsep : (He.cT K ("law", none)).2 ∉ Ps K := T.sep
  generalize ePt : (He.cT K ("law", none)).2 = Pt at *
  have eC : (He.cT K ("law", none)).1 = c0 := ec
  rw [eC] at TB
  refine fn_of lk hcd sc_law (fun vs H Q E h => ?_) (fun A outer s H vs Q E hr h => ?_)
  · obtain ⟨a, ns, rfl, _⟩ := h; rfl
  · obtain ⟨a, ns, rfl, hl, hS, hP, tg0, q⟩ := h
    have hcode : (envOfC "law" (defScope S_law) s.heap.objs.size (He.ga K "law") (.ref c0)).code = .ref c0 := rfl
    refine ⟨_, PSs.nox (pss_cons (ps_for PassesOwn.never rfl (pi_range1 (by rfl) T.n_range (pa_cons (pe_callB (call_max2 rfl) (by rfl) T.n_max (by decide +kernel) (pa_cons pe_int (pa_cons (pe_callB (call_min2 rfl) (by rfl) T.n_min (by decide +kernel) (pa_cons (pe_callB (lenK K) (by rfl) T.n_len boot_len (pa_cons (pv 0) pa_nil)) (pa_cons pe_int pa_nil))) pa_nil))) pa_nil)) (pg_name (i := 1) sc_law.nd rfl (Or.inl rfl)) (pss_cons (ps_set (i := 2) sc_law.nd rfl (Or.inr rfl) (pe_callD D_law_cell_at hr (by rfl) pass0 (pa_cons (pv 0) (pa_cons (pv 1) pa_nil))))
 (pss_cons (ps_set (i := 3) sc_law.nd rfl (Or.inr rfl) (pe_callD D_law_order hr (by rfl) pass0 (pa_cons (pv 2) (pa_cons pe_int (pa_cons (pe_ix (ixLK K) (pe_lst (pa_cons pe_int (pa_cons pe_int (pa_cons pe_int (pa_cons pe_int pa_nil))))) (pe_callD D_law_draw hr (by rfl) pass0 (pa_cons (pv 2) (pa_cons pe_int (pa_cons pe_int pa_nil)))) (fun _ _ => rfl)) pa_nil)))))
 (pss_cons (ps_set (i := 4) sc_law.nd rfl (Or.inr rfl) (pe_callB (lenK K) (by rfl) T.n_len boot_len (pa_cons (pv 3) pa_nil)))
 (pss_cons (ps_set (i := 5) sc_law.nd rfl (Or.inl rfl) (pe_op op_rep (pe_lst (pa_cons pe_int pa_nil)) (pv 4)))
 (pss_cons (ps_for PassesOwn.never rfl (pi_enumT (by rfl) T.n_enumerate (pa_cons (pv 3) pa_nil)) (pg_tup (by rfl) (pgs_cons (pg_name (i := 6) sc_law.nd rfl (Or.inl rfl)) (pgs_cons (pg_name (i := 7) sc_law.nd rfl (Or.inl rfl)) pgs_nil))) (pss_one (ps_asg (pe_op op_add (pv 6) pe_int) (pg_sub (pv 5) (pe_op op_sub (pv 7) pe_int) set_list))))
 (pss_cons (ps_set (i := 8) sc_law.nd rfl (Or.inl rfl) (pe_lst (pa_cons (pe_callTy call_tuple_of (by rfl) T.n_tuple (by decide +kernel) (pa_cons (pe_lc (own := [("_law_one", 7)]) (g := gName 7) (tt := tYes) (by rfl) sc_law.nd (pi_tup (pv 3)) (blkOk_by (own := [("_law_one", 7)]) (N := N_law) (sc := defScope S_law) (by decide +kernel)) (fun _ _ _ _ _ => (pg_name (i := 7) sc_law.nd rfl (Or.inl rfl))) (fun _ _ _ _ _ => pts_nil) (fun _ _ _ _ _ => (pe_op op_sub (pe_op op_add (pv 4) pe_int) (pv 7)))) pa_nil)) (pa_cons (pe_callTy call_tuple_of (by rfl) T.n_tuple (by decide +kernel) (pa_cons (pe_lc (own := [("_law_j", 12)]) (g := gName 12) (tt := tYes) (by rfl) sc_law.nd (pi_range1 (by rfl) T.n_range (pa_cons (pv 4) pa_nil)) (blkOk_by (own := [("_law_j", 12)]) (N := N_law) (sc := defScope S_law) (by decide +kernel)) (fun _ _ _ _ _ => (pg_name (i := 12) sc_law.nd rfl (Or.inl rfl))) (fun _ _ _ _ _ => pts_nil) (fun _ _ _ _ _ => (pe_ix (ixTK K) (pv 3) (pe_op op_sub (pe_op op_sub (pv 4) pe_int) (pv 12)) (fun _ _ => rfl)))) pa_nil)) (pa_cons (pe_callTy call_tuple_of (by rfl) T.n_tuple (by decide +kernel) (pa_cons (pv 5) pa_nil)) pa_nil)))))
 (pss_cons (ps_set (i := 9) sc_law.nd rfl (Or.inl rfl) (pe_lst (pa_cons (pe_callD D_turned_over hr (by rfl) passL (pa_cons (pv 3) pa_nil)) (pa_cons (pe_callD D_backward hr (by rfl) passL (pa_cons (pv 3) pa_nil)) (pa_cons (pe_callD D_contrary hr (by rfl) passL (pa_cons (pv 3) pa_nil)) pa_nil)))))
 (pss_cons (ps_if (pt_cmpR (neDK K hr.units) (pv 9) (pv 8) (nomark _)) (pss_one (ps_ret pe_bl)) pss_nil)
 (pss_cons (ps_if (pt_not (pt_val (pe_callB (allK K rfl) (by rfl) T.n_all (by decide +kernel) (pa_cons (pe_lc (own := [("_law_one", 7)]) (g := gName 7) (tt := tYes) (by rfl) sc_law.nd (pi_list (pv 9)) (blkOk_by (own := [("_law_one", 7)]) (N := N_law) (sc := defScope S_law) (by decide +kernel)) (fun _ _ _ _ _ => (pg_name (i := 7) sc_law.nd rfl (Or.inl rfl))) (fun _ _ _ _ _ => pts_nil) (fun _ _ _ _ _ => (pe_and (pe_callB (isiK K) (by rfl) T.n_isinstance (by decide +kernel) (pa_cons (pv 7) (pa_cons (pe_bltn (v := .ty "tuple") (u := .type "tuple") (by rfl) T.n_tuple (by decide +kernel) rfl) pa_nil))) (pe_one (pe_callD D_law_is_order hr (by rfl) pass0 (pa_cons (pv 7) pa_nil)))))) pa_nil)))) (pss_one (ps_ret pe_bl)) pss_nil)
 (pss_one (ps_for PassesOwn.never rfl (pi_list (pe_op op_cat (pe_lc (own := [("_law_j", 12)]) (g := gName 12) (tt := tYes) (by rfl) sc_law.nd (pi_range1 (by rfl) T.n_range (pa_cons pe_int pa_nil)) (blkOk_by (own := [("_law_j", 12)]) (N := N_law) (sc := defScope S_law) (by decide +kernel)) (fun _ _ _ _ _ => (pg_name (i := 12) sc_law.nd rfl (Or.inl rfl))) (fun _ _ _ _ _ => pts_nil) (fun _ _ _ _ _ => (pe_callD D_law_bent hr (by rfl) pass0 (pa_cons (pv 2) (pa_cons (pe_op op_add pe_int (pe_op op_mul pe_int (pv 12))) (pa_cons (pv 3) pa_nil)))))) (pe_lst (pa_cons (pe_callTy call_list_of (by rfl) T.n_list (by decide +kernel) (pa_cons (pv 3) pa_nil)) pa_nil)))) (pg_name (i := 11) sc_law.nd rfl (Or.inr rfl)) (pss_one (ps_if (pt_not (pt_val (pe_callD D_law_is_order hr (by rfl) pass0 (pa_cons (pv 11) pa_nil)))) (pss_one (ps_for PassesOwn.never rfl (pi_list (pe_lst (pa_cons (pe_glob (v := .ref (He.ga K "turned_over")) rfl T.g_turned_over rfl) (pa_cons (pe_glob (v := .ref (He.ga K "backward")) rfl T.g_backward rfl) (pa_cons (pe_glob (v := .ref (He.ga K "contrary")) rfl T.g_contrary rfl) pa_nil))))) (pg_name (i := 10) sc_law.nd rfl (Or.inr rfl)) (pss_one (ps_if (pt_cmpR op_ne (pe_refusedL (t := fun E => (tCallM 10 [He.ga K "turned_over", He.ga K "backward", He.ga K "contrary"] (spBadO K (He.ga K "NoOrder")) E (tCons (tVar 11) tNil))) T.d_law_refused T.g_law_refused D_law_class T.g_TurnError TB hr hcode (fun A outer s H E f c' hr2 => (pe_callM (E := E) HELD hr2 rfl (by first | exact Or.inl rfl | exact Or.inr (Or.inl rfl) | exact Or.inr (Or.inr rfl)) (passOut (takes_of rfl rfl rfl rfl)) (pa_cons (pv 11) pa_nil))) (L := LamX.lamS_by (show LamX.lamSB (defScope S_law) _ = true by decide +kernel))) pe_str (nomark _)) (pss_one (ps_ret pe_bl)) pss_nil)))) pss_nil))))))))))))))
 (pss_one (ps_ret pe_bl))), ?_⟩
    have T0 : LamX.TabS H Pt (("law" : Str) ++ (".<locals>." : Str) ++ ("<lambda>" : Str)) := LamX.TabS.nil hP
    refine ⟨_, rfl, a, _, rfl, .inl hS, _, _, rfl, _, _, rfl, _, rfl, ?_, ?_, ?_⟩
    · rw [List.length_map]; split <;> (try split) <;> omega
    · rw [List.length_map]; split <;> (try split) <;> omega
    refine for_range (lo := 0) (n := _) (fun i σ H' => (∃ x1 x2 x3 x4 x5 x6 x7 x8 x9 x10 x11 x12 : Option V, σ = [some (.ref a), x1, x2, x3, x4, x5, x6, x7, x8, x9, x10, x11, x12]) ∧ Gw (Ps K) H H' ∧ LamX.TabS H' Pt (("law" : Str) ++ (".<locals>." : Str) ++ ("<lambda>" : Str))) ⟨⟨_, _, _, _, _, _, _, _, _, _, _, _, rfl⟩, Gw.refl tg0, T0⟩ ?_ ?_
    · rintro i σ H' hi ⟨⟨x1, x2, x3, x4, x5, x6, x7, x8, x9, x10, x11, x12, rfl⟩, g0, t0⟩
      refine ⟨_, rfl, _, rfl, a, ns, i, ?_, ext_seq g0.ext hS, fun cv => ?_⟩
      · rw [Int.zero_add]; rfl
      refine ⟨_, rfl, sz 4, fun l4 nl4 => ?_⟩
      have s4 := same_new (o := .lst [.int 12, .int 12, .int 12, .int 40]) nl4
      refine ⟨_, rfl, cv, 3000, 4, rfl, by decide, by decide, by decide, by decide, fun r r0 r1 => ?_⟩
      have key : ∃ m : Int, 1 ≤ m ∧ m ≤ 40 ∧ atI ([.int 12, .int 12, .int 12, .int 40] : List V) r = some (.int m) := by
        rcases (show r = 0 ∨ r = 1 ∨ r = 2 ∨ r = 3 by omega) with rfl | rfl | rfl | rfl
        · exact ⟨12, by decide, by decide, rfl⟩
        · exact ⟨12, by decide, by decide, rfl⟩
        · exact ⟨12, by decide, by decide, rfl⟩
        · exact ⟨40, by decide, by decide, rfl⟩
      obtain ⟨m, m1, m40, hm⟩ := key
      refine ⟨l4, _, _, _, rfl, rfl, SqL.of upd_same, hm, cv, m, rfl, m1, m40, fun H1 p l s1 hZ o => ?_⟩
      have g1 := g0.same (s4.trans s1)
      have t1 := t0.ext (s4.trans s1)
      have hln : (l.map V.int).length = l.length := List.length_map ..
      have hfew := o.few
      have hpos := o.pos
      refine ⟨_, rfl, p, _, rfl, .inr hZ.sq, ?_⟩
      rw [hln]
      -- the contrary, by hand
      refine ⟨sz 1, fun z1 nz1 => ?_⟩
      have s2 := same_new (o := .lst [.int 0]) nz1
      refine ⟨_, rfl, z1, (l.length : Int), [.int 0], rfl, rfl, upd_same, by omega, by omega, sz' (by show 1 * (l.length : Int).toNat ≤ 1000; omega), fun ot not => ?_⟩
      have s3 := same_new (o := .lst (List.replicate ((l.length : Int)).toNat [V.int 0]).flatten) not
      have eR : (List.replicate ((l.length : Int)).toNat [V.int 0]).flatten = (oth l 0).map V.int := by
        rw [oth_zero, List.map_replicate, Int.toNat_natCast]
        generalize l.length = k
        induction k with
        | zero => rfl
        | succ k ih => rw [List.replicate_succ, List.flatten_cons, ih, List.replicate_succ]; rfl
      rw [eR] at s3 ⊢
      have eo : (upd (upd H1 z1 (.lst [.int 0])) ot (.lst ((oth l 0).map V.int))) ot = some (.lst ((oth l 0).map V.int)) := upd_same
      have fo : (upd H1 z1 (.lst [.int 0])) ot = none := not
      have fo1 : H1 ot = none := s2.free not
      refine ⟨_, rfl, p, _, rfl, ext_sqt (Same.ext (s2.trans s3)) hZ.sq, for_enumT (xs := l.map V.int) (fun j σ H5 => (∃ x1 x6 x7 x8 x9 x10 x11 x12 : Option V, σ = [some (.ref a), x1, some (.int cv), some (.ref p), some (.int (l.length : Int)), some (.ref ot), x6, x7, x8, x9, x10, x11, x12]) ∧ Same H1 H5 ∧ H5 ot = some (.lst ((oth l j).map V.int))) ⟨⟨_, _, _, _, _, _, _, _, rfl⟩, s2.trans s3, eo⟩ (fun j σ H5 ⟨_, e, _⟩ => ext_sqt (Same.ext e) hZ.sq) ?_ ?_⟩
      · rintro j x t σ H5 hx ⟨⟨x1, x6, x7, x8, x9, x10, x11, x12, rfl⟩, e5, eo5⟩ nt
        obtain ⟨z, hz, rfl⟩ := get_ints hx
        have hj := (List.getElem?_eq_some_iff.mp hz).1
        obtain ⟨z1, z2⟩ := o.mem.mp (List.mem_of_getElem? hz)
        have st := same_new (o := .tup [.int (j : Nat), .int z]) nt
        have eo6 := st _ _ eo5
        refine ⟨t, _, rfl, SqT.of upd_same, rfl, ?_⟩
        refine ⟨_, _, rfl, _, _, rfl, rfl, ?_⟩
        refine ⟨_, rfl, _, _, rfl, rfl, _, rfl, _, rfl, _, _, rfl, rfl, ot, _, _, (z - 1).toNat, rfl, rfl, eo6, ?_, ⟨_, _, _, _, _, _, _, _, rfl⟩, same_set (e5.trans st) fo1, ?_⟩
        · have : z - 1 = (((z - 1).toNat : Nat) : Int) := by omega
          rw [this]
          exact ixN_of (by rw [List.length_map, oth_len]; omega)
        · rw [upd_same, oth_succ o hz, List.map_set]
      · rintro σ H5 ⟨⟨x1, x6, x7, x8, x9, x10, x11, x12, rfl⟩, e5, eo5⟩
        rw [hln, oth_all o] at eo5
        have Z5 := hZ.ext (Same.ext e5)
        have lo : (overL l).length = l.length := by unfold overL; exact List.length_map ..
        have lc : (conL l).length = l.length := by unfold conL; rw [List.length_map, rng_len]
        -- the due ones
        refine ⟨_, rfl, p, rfl, ⟨_, Z5.sq⟩, fun D1 nD1 => ?_⟩
        refine lc_tup (K := K) (xs := l.map V.int) (fun j H3 => Same H5 H3 ∧ H3 D1 = some (.lst (((l.take j).map fun x => (l.length : Int) + 1 - x).map V.int))) ⟨same_new nD1, upd_same⟩ (fun j H3 _ ⟨s3, _⟩ => (Z5.ext (Same.ext s3)).sq) ?_ ?_
        · rintro j x H3 hx ⟨s3, eD⟩
          obtain ⟨z, hz, rfl⟩ := get_ints hx
          refine ⟨rfl, _, rfl, _, _, rfl, rfl, _, rfl, _, _, rfl, rfl, _, eD, small_n (by rw [List.length_map, List.length_map, List.length_take]; omega), same_set s3 nD1, ?_⟩
          rw [upd_same, List.take_add_one, hz, List.map_append, List.map_append]; rfl
        rintro G1 ⟨s6, eD1⟩
        rw [hln, List.take_length] at eD1
        change G1 D1 = some (.lst ((overL l).map V.int)) at eD1
        refine ⟨D1, _, rfl, .inl ⟨SqL.of eD1, fun d1 nd1 => ?_⟩⟩
        have s7 := same_new (o := .tup ((overL l).map V.int)) nd1
        have f1 : SqT K (upd G1 d1 (.tup ((overL l).map V.int))) d1 ((overL l).map V.int) := SqT.of upd_same
        have sA := s6.trans s7
        generalize upd G1 d1 (.tup ((overL l).map V.int)) = G2 at *
        have Z6 := Z5.ext (Same.ext sA)
        refine ⟨_, rfl, _, rfl, by omega, by omega, fun D2 nD2 => ?_⟩
        refine lc_range (lo := 0) (n := l.length) (fun j H3 => Same G2 H3 ∧ H3 D2 = some (.lst ((l.reverse.take j).map V.int))) ⟨same_new nD2, upd_same⟩ ?_ ?_
        · rintro j H3 hj ⟨s3, eD⟩
          have hk : l.length - 1 - j < l.length := by omega
          have hz : l.reverse[j]? = some (l.getD (l.length - 1 - j) 0) := by
            rw [List.getElem?_reverse hj]; exact getD_of hk
          have ek : (l.length : Int) - 1 - (0 + (j : Int)) = ((l.length - 1 - j : Nat) : Int) := by omega
          refine ⟨rfl, _, rfl, _, rfl, _, _, rfl, rfl, _, rfl, _, _, rfl, rfl, p, _, _, _, rfl, rfl, (Z6.ext (Same.ext s3)).sq, (by rw [ek]; exact at_of (j := l.length - 1 - j) rfl (getI hk)), _, eD, small_n (by rw [List.length_map, List.length_take]; omega), same_set s3 nD2, ?_⟩
          rw [upd_same, List.take_add_one, hz, List.map_append]; rfl
        rintro G3 ⟨s8, eD2⟩
        rw [← List.length_reverse (as := l), List.take_length] at eD2
        refine ⟨D2, _, rfl, .inl ⟨SqL.of eD2, fun d2 nd2 => ?_⟩⟩
        have s9 := same_new (o := .tup (l.reverse.map V.int)) nd2
        have f2 : SqT K (upd G3 d2 (.tup (l.reverse.map V.int))) d2 (l.reverse.map V.int) := SqT.of upd_same
        have f1 := sqt_same f1 (s8.trans s9)
        have sB := (sA.trans s8).trans s9
        generalize upd G3 d2 (.tup (l.reverse.map V.int)) = G4 at *
        refine ⟨_, rfl, ot, _, rfl, .inl ⟨SqL.of (sB _ _ eo5), fun d3 nd3 => ?_⟩⟩
        have s10 := same_new (o := .tup ((conL l).map V.int)) nd3
        have f3 : SqT K (upd G4 d3 (.tup ((conL l).map V.int))) d3 ((conL l).map V.int) := SqT.of upd_same
        have f1 := sqt_same f1 s10
        have f2 := sqt_same f2 s10
        have sC := sB.trans s10
        generalize upd G4 d3 (.tup ((conL l).map V.int)) = G5 at *
        refine ⟨sz 3, fun du ndu => ?_⟩
        have s11 := same_new (o := .lst [.ref d1, .ref d2, .ref d3]) ndu
        have fd : SqL K (upd G5 du (.lst [.ref d1, .ref d2, .ref d3])) du [.ref d1, .ref d2, .ref d3] := SqL.of upd_same
        have f1 := sqt_same f1 s11
        have f2 := sqt_same f2 s11
        have f3 := sqt_same f3 s11
        have sD := (e5.trans sC).trans s11
        generalize upd G5 du (.lst [.ref d1, .ref d2, .ref d3]) = G6 at *
        have dDu : Dp K G6 (.ref du) (triD (overL l) l.reverse (conL l)) := dp_tri fd f1 f2 f3
        have g6 := g1.same sD
        have t6 := t1.ext sD
        have Z6 := hZ.ext (Same.ext sD)
        -- what the program tells
        refine ⟨_, rfl, .inl ⟨p, l, rfl, Z6, o, g6.tab, fun G7 q1 o7 h1 => ?_⟩⟩
        have g7 := g6.go o7
        refine ⟨_, rfl, .inl ⟨p, l, rfl, Z6.ext o7.ext, o, g7.tab, fun G8 q2 o8 h2 => ?_⟩⟩
        have g8 := g7.go o8
        refine ⟨_, rfl, .inl ⟨p, l, rfl, (Z6.ext o7.ext).ext o8.ext, o, g8.tab, fun G9 q3 o9 h3 => ?_⟩⟩
        have g9 := g8.go o9
        have t9 := tabS_go o9 (tabS_go o8 (tabS_go o7 t6 hsep) hsep) hsep
        have Z9 := ((Z6.ext o7.ext).ext o8.ext).ext o9.ext
        have h1 := ext_sqt o9.ext (ext_sqt o8.ext h1)
        have h2 := ext_sqt o9.ext h2
        refine ⟨sz 3, fun fo ndf => ?_⟩
        have s12 := same_new (o := .lst [.ref q1, .ref q2, .ref q3]) ndf
        have ff : SqL K (upd G9 fo (.lst [.ref q1, .ref q2, .ref q3])) fo [.ref q1, .ref q2, .ref q3] := SqL.of upd_same
        have h1 := sqt_same h1 s12
        have h2 := sqt_same h2 s12
        have h3 := sqt_same h3 s12
        have xD := ((o7.ext.trans o8.ext).trans o9.ext).trans (Same.ext s12)
        have g10 := g9.same s12
        have t10 := t9.ext s12
        have Z10 := Z9.ext (Same.ext s12)
        have fd := ext_seq xD fd
        have f1 := ext_sqt xD f1
        have f2 := ext_sqt xD f2
        have f3 := ext_sqt xD f3
        generalize upd G9 fo (.lst [.ref q1, .ref q2, .ref q3]) = G10 at *
        refine ⟨_, rfl, _, rfl, ne_same (d := triD (overL l) l.reverse (conL l)) (dp_tri ff h1 h2 h3) (dp_tri fd f1 f2 f3) (shaped_tri _ _ _) (eqv_tri _ _ _) ⟨false, rfl, iteF ?_⟩⟩
        -- each of them is an order
        have T1 : TD K G10 (.ref q1) (some ((overL l).map some)) := TD.of h1 (by omega)
        have T2 : TD K G10 (.ref q2) (some (l.reverse.map some)) := TD.of h2 (by rw [List.length_reverse]; omega)
        have T3 : TD K G10 (.ref q3) (some ((conL l).map some)) := TD.of h3 (by omega)
        have all3 : ∀ (m : Nat) (y : V), ([.ref q1, .ref q2, .ref q3] : List V)[m]? = some y → ∃ d, TD K G10 y d ∧ d.isSome = true ∧ ordB d = true := fun m y hy => by
          match m, hy with
          | 0, hy => cases hy; exact ⟨_, T1, rfl, ordB_of (over_ord o)⟩
          | 1, hy => cases hy; exact ⟨_, T2, rfl, ordB_of (rev_ord o)⟩
          | 2, hy => cases hy; exact ⟨_, T3, rfl, ordB_of (con_ord o)⟩
        refine ⟨_, rfl, fo, rfl, ⟨_, ff⟩, fun L nL => ?_⟩
        refine lc_list (K := K) (xs := [.ref q1, .ref q2, .ref q3]) (fun i H9 => Same G10 H9 ∧ H9 L = some (.lst ((List.replicate i true).map V.bl))) ⟨same_new nL, upd_same⟩ (fun i H9 _ ⟨s9, _⟩ => ext_seq (Same.ext s9) ff) ?_ ?_
        · rintro j x H9 hx ⟨s9, eL⟩
          have hj : j < 3 := (List.getElem?_eq_some_iff.mp hx).1
          obtain ⟨d, T, ds, od⟩ := all3 j x hx
          have T9 := T.ext (Same.ext s9)
          obtain ⟨ty, hty, hk⟩ := T9.kind
          rw [ds] at hk
          refine ⟨rfl, _, rfl, _, _, _, _, _, rfl, .ty "tuple", hty, hk, _, rfl, ?_⟩
          refine iteT ?_
          refine ⟨_, rfl, x, d, rfl, T9, fun H11 s11 => ?_⟩
          rw [od]
          refine ⟨_, s11 _ _ eL, small_n (by rw [List.length_map, List.length_replicate]; omega), same_set (s9.trans s11) nL, ?_⟩
          rw [upd_same, List.replicate_succ', List.map_append]; rfl
        rintro G11 ⟨s13, eL⟩
        refine ⟨L, _, rfl, SqL.of eL, _, rfl, ?_⟩
        refine iteF ?_
        have g11 := g10.same s13
        have t11 := t10.ext s13
        have Z11 := Z10.ext (Same.ext s13)
        -- bent things
        refine ⟨_, rfl, by omega, by omega, fun D nD => ?_⟩
        refine lc_range (lo := 0) (n := 4) (fun j H3 => Same G11 H3 ∧ ∃ acc : List V, H3 D = some (.lst acc) ∧ acc.length = j ∧ ∀ y ∈ acc, ∃ d, TD K (mask D H3) y d) ⟨same_new nD, [], upd_same, rfl, fun y hy => by cases hy⟩ ?_ ?_
        · rintro j H3 hj ⟨s3, acc, eD, la, ta⟩
          refine ⟨rfl, _, rfl, _, rfl, _, _, rfl, rfl, ?_⟩
          refine ⟨.inl ⟨by decide, by decide⟩, _, _, rfl, rfl, _, rfl, cv, _, p, l, D, acc, rfl, by omega, by omega, Z11.ext (Same.ext s3), o, eD, fun H12 x d s12 T12 => ?_⟩
          refine ⟨acc, s12 _ _ eD, small_n (by omega), same_set (s3.trans s12) nD, acc ++ [x], upd_same, by rw [List.length_append, la]; rfl, fun y hy => ?_⟩
          rw [mask_set]
          cases List.mem_append.mp hy with
          | inl h => obtain ⟨d', T'⟩ := ta y h; exact ⟨d', T'.ext (mx s12)⟩
          | inr h => rw [List.mem_singleton.mp h]; exact ⟨d, T12⟩
        rintro G12 ⟨s14, acc, eD, la, ta⟩
        have Z12 := Z11.ext (Same.ext s14)
        refine ⟨_, rfl, p, _, rfl, .inr Z12.sq, fun q4 n4 => ?_⟩
        have s15 := same_new (o := .lst (l.map V.int)) n4
        refine ⟨sz 1, fun n5 nn5 => ?_⟩
        have s16 := same_new (o := .lst [.ref q4]) nn5
        have T4 : TD K (upd (upd G12 q4 (.lst (l.map V.int))) n5 (.lst [.ref q4])) (.ref q4) none := .other (.base (.lst (s16 _ _ upd_same))) (by decide) (by decide)
        refine ⟨D, n5, _, _, rfl, rfl, s16 _ _ (s15 _ _ eD), upd_same, sz' (by rw [la]; show 4 + 1 ≤ 1000; decide), fun n6 nn6 => ?_⟩
        have s17 := same_new (o := .lst (acc ++ [.ref q4])) nn6
        have things : ∀ y ∈ acc ++ [.ref q4], ∃ d, TD K (upd (upd (upd G12 q4 (.lst (l.map V.int))) n5 (.lst [.ref q4])) n6 (.lst (acc ++ [.ref q4]))) y d := fun y hy => by
          cases List.mem_append.mp hy with
          | inl h => obtain ⟨d', T'⟩ := ta y h; exact ⟨d', (T'.ext (Same.ext mask_sub)).ext (Same.ext ((s15.trans s16).trans s17))⟩
          | inr h => rw [List.mem_singleton.mp h]; exact ⟨_, T4.ext (Same.ext s17)⟩
        have eT : (upd (upd (upd G12 q4 (.lst (l.map V.int))) n5 (.lst [.ref q4])) n6 (.lst (acc ++ [.ref q4]))) n6 = some (.lst (acc ++ [.ref q4])) := upd_same
        have sE := ((s14.trans s15).trans s16).trans s17
        have g12 := g11.same sE
        have t12 := t11.ext sE
        generalize upd (upd (upd G12 q4 (.lst (l.map V.int))) n5 (.lst [.ref q4])) n6 (.lst (acc ++ [.ref q4])) = G13 at *
        refine ⟨n6, rfl, ⟨_, SqL.of eT⟩, for_list (xs := acc ++ [.ref q4]) (fun i σ H3 => (∃ x1 x5 x6 x7 x8 x9 x10 x11 x12 : Option V, σ = [some (.ref a), x1, some (.int cv), some (.ref p), some (.int (l.length : Int)), x5, x6, x7, x8, x9, x10, x11, x12]) ∧ Gw (Ps K) G13 H3 ∧ LamX.TabS H3 Pt (("law" : Str) ++ (".<locals>." : Str) ++ ("<lambda>" : Str))) ⟨⟨_, _, _, _, _, _, _, _, _, rfl⟩, Gw.refl g12.tab, t12⟩ (fun i σ H3 _ ⟨_, e, _⟩ => ext_seq e.ext (SqL.of eT)) ?_ ?_⟩
        · rintro j x σ H3 hx ⟨⟨x1, x5, x6, x7, x8, x9, x10, x11, x12, rfl⟩, g3, t3⟩
          obtain ⟨d, Tx⟩ := things x (List.mem_of_getElem? hx)
          refine ⟨_, rfl, x, d, rfl, Tx.ext g3.ext, fun H4 s4 => ⟨_, rfl, ?_⟩⟩
          cases od : ordB d with
          | true => exact iteF ⟨⟨_, _, _, _, _, _, _, _, _, rfl⟩, g3.same s4, t3.ext s4⟩
          | false =>
            refine iteT ?_
            refine ⟨sz 3, fun fl nfl => ?_⟩
            have s5 := same_new (o := .lst [.ref (He.ga K "turned_over"), .ref (He.ga K "backward"), .ref (He.ga K "contrary")]) nfl
            have g5 := (g3.same s4).same s5
            have t5 := (t3.ext s4).ext s5
            have eF : (upd H4 fl (.lst [.ref (He.ga K "turned_over"), .ref (He.ga K "backward"), .ref (He.ga K "contrary")])) fl = some (.lst [.ref (He.ga K "turned_over"), .ref (He.ga K "backward"), .ref (He.ga K "contrary")]) := upd_same
            generalize upd H4 fl (.lst [.ref (He.ga K "turned_over"), .ref (He.ga K "backward"), .ref (He.ga K "contrary")]) = H5' at *
            refine ⟨fl, rfl, ⟨_, SqL.of eF⟩, for_list (xs := [.ref (He.ga K "turned_over"), .ref (He.ga K "backward"), .ref (He.ga K "contrary")]) (fun i σ H6 => (∃ x1 x5 x6 x7 x8 x9 x10 x12 : Option V, σ = [some (.ref a), x1, some (.int cv), some (.ref p), some (.int (l.length : Int)), x5, x6, x7, x8, x9, x10, some x, x12]) ∧ Gw (Ps K) H5' H6 ∧ LamX.TabS H6 Pt (("law" : Str) ++ (".<locals>." : Str) ++ ("<lambda>" : Str))) ⟨⟨_, _, _, _, _, _, _, _, rfl⟩, Gw.refl g5.tab, t5⟩ (fun i σ H6 _ ⟨_, e, _⟩ => ext_seq e.ext (SqL.of eF)) ?_ ?_⟩
            · rintro k f σ H6 hf ⟨⟨x1, x5, x6, x7, x8, x9, x10, x12, rfl⟩, g6', t6'⟩
              obtain ⟨fa, rfl, hfa⟩ : ∃ fa, f = .ref fa ∧ fa ∈ [He.ga K "turned_over", He.ga K "backward", He.ga K "contrary"] := by
                match k, hf with
                | 0, hf => cases hf; exact ⟨_, rfl, by simp⟩
                | 1, hf => cases hf; exact ⟨_, rfl, by simp⟩
                | 2, hf => cases hf; exact ⟨_, rfl, by simp⟩
              refine ⟨t6', fun H7 e7 t7 => ?_⟩
              have g7' := g6'.lone e7 t6' hsep
              refine ⟨fa, rfl, hfa, _, rfl, x, d, rfl, (Tx.ext g5.ext).ext g7'.ext, od, g7'.tab, fun H8 g8' => ?_⟩
              refine ⟨rfl, _, 0, "order", rfl, T.j_NoOrder, rfl, fun H9 s9 => ?_⟩
              dsimp only [tC]
              refine neS_same ?_
              refine ⟨false, rfl, iteF ?_⟩
              exact ⟨⟨_, _, _, _, _, _, _, _, rfl⟩, (g7'.go g8').same s9, (tabS_go g8' t7 hsep).ext s9⟩
            · rintro σ H6 ⟨⟨x1, x5, x6, x7, x8, x9, x10, x12, rfl⟩, g6', t6'⟩
              exact ⟨⟨_, _, _, _, _, _, _, _, _, rfl⟩, ⟨g5.ext.trans g6'.ext, g6'.tab⟩, t6'⟩
        · rintro σ H3 ⟨⟨x1, x5, x6, x7, x8, x9, x10, x11, x12, rfl⟩, g3, t3⟩
          exact ⟨⟨_, _, _, _, _, _, _, _, _, _, _, _, rfl⟩, g12.trans g3, t3⟩
    · rintro σ H' ⟨⟨x1, x2, x3, x4, x5, x6, x7, x8, x9, x10, x11, x12, rfl⟩, g0, t0⟩
      exact q _
end
def D_is_whole : He.DefD := ⟨("is_whole", none), "is_whole", "is_whole", defArgs S_is_whole, defBody S_is_whole, defScope S_is_whole, [], []⟩
def D_is_whole_tuple : He.DefD := ⟨("is_whole_tuple", none), "is_whole_tuple", "is_whole_tuple", defArgs S_is_whole_tuple, defBody S_is_whole_tuple, defScope S_is_whole_tuple, [], []⟩
def D_is_order : He.DefD := ⟨("is_order", none), "is_order", "is_order", defArgs S_is_order, defBody S_is_order, defScope S_is_order, [], []⟩
def D_need_order : He.DefD := ⟨("need_order", none), "need_order", "need_order", defArgs S_need_order, defBody S_need_order, defScope S_need_order, [], []⟩
def D_turned_over : He.DefD := ⟨("turned_over", none), "turned_over", "turned_over", defArgs S_turned_over, defBody S_turned_over, defScope S_turned_over, [], []⟩
def D_backward : He.DefD := ⟨("backward", none), "backward", "backward", defArgs S_backward, defBody S_backward, defScope S_backward, [], []⟩
def D_contrary : He.DefD := ⟨("contrary", none), "contrary", "contrary", defArgs S_contrary, defBody S_contrary, defScope S_contrary, [], []⟩
def D_law_cell_at : He.DefD := ⟨("_law_cell_at", none), "_law_cell_at", "_law_cell_at", defArgs S_law_cell_at, defBody S_law_cell_at, defScope S_law_cell_at, [], []⟩
def D_law_draw : He.DefD := ⟨("_law_draw", none), "_law_draw", "_law_draw", defArgs S_law_draw, defBody S_law_draw, defScope S_law_draw, [], []⟩
def D_law_order : He.DefD := ⟨("_law_order", none), "_law_order", "_law_order", defArgs S_law_order, defBody S_law_order, defScope S_law_order, [], []⟩
def D_law_is_order : He.DefD := ⟨("_law_is_order", none), "_law_is_order", "_law_is_order", defArgs S_law_is_order, defBody S_law_is_order, defScope S_law_is_order, [], []⟩
def D_law_bent : He.DefD := ⟨("_law_bent", none), "_law_bent", "_law_bent", defArgs S_law_bent, defBody S_law_bent, defScope S_law_bent, [], []⟩
def D_law_class : He.DefD := ⟨("_law_class", none), "_law_class", "_law_class", defArgs S_law_class, defBody S_law_class, defScope S_law_class, [], []⟩
def D_law_refused : He.DefD := ⟨("_law_refused", none), "_law_refused", "_law_refused", defArgs S_law_refused, defBody S_law_refused, defScope S_law_refused, [], []⟩
def D_law : He.DefD := ⟨("law", none), "law", "law", defArgs S_law, defBody S_law, defScope S_law, [], []⟩
def fn : List He.DefD := [D_is_whole, D_is_whole_tuple, D_is_order, D_need_order, D_turned_over, D_backward, D_contrary, D_law_cell_at, D_law_draw, D_law_order, D_law_is_order, D_law_bent, D_law_class, D_law_refused, D_law]
def fa : List He.Fa := [.glo "is_whole", .glo "is_whole_tuple", .glo "is_order", .glo "need_order", .glo "turned_over", .glo "backward", .glo "contrary", .glo "_law_cell_at", .glo "_law_draw", .glo "_law_order", .glo "_law_is_order", .glo "_law_bent", .glo "_law_class", .glo "_law_refused", .glo "law", .free "isinstance", .free "int", .free "bool", .free "len", .free "range", .free "list", .free "tuple", .free "all", .free "sorted", .free "max", .free "min", .free "str", .free "enumerate", .free "ValueError", .int "MOST" 40, .glo "TurnError", .glo "NoOrder", .glo "NoNumber", .glo "NoRow", .glo "NotUpDown", .glo "NoPattern", .glo "NoTree", .glo "NoLoose", .glo "NoRing", .glo "NoFraction", .glo "NoText", .glo "NoDeed", .glo "NoLine", .exc "NoOrder"]
def ex (K : PySem.W.Frag) : Bool := ([(0, "NoOrder")].all fun q => classB K q.1 q.2) && decide ((He.cT K ("law", none)).2 ∉ [(He.cT K ("is_whole_tuple", none)).2, (He.cT K ("turned_over", none)).2, (He.cT K ("contrary", none)).2])
def tf : List He.Defn := [("is_whole_tuple", none), ("turned_over", none), ("contrary", none), ("law", none)]
theorem txt_of {w : World} {h : Heap} {K : PySem.W.Frag} {mg : Str → Option Value} (X : K.In h) (G : h.Ns mainGlobals mg) (c : He.SaysX fa fn [] tf ex w h K) : Txt K mg :=
  { d_is_whole := c.t.d.def_ 0 (d := D_is_whole) rfl, g_is_whole := He.glo_ok X G (c.t.d.fact 0 (f := .glo "is_whole") rfl),
    d_is_whole_tuple := c.t.d.def_ 1 (d := D_is_whole_tuple) rfl, g_is_whole_tuple := He.glo_ok X G (c.t.d.fact 1 (f := .glo "is_whole_tuple") rfl),
    d_is_order := c.t.d.def_ 2 (d := D_is_order) rfl, g_is_order := He.glo_ok X G (c.t.d.fact 2 (f := .glo "is_order") rfl),
    d_need_order := c.t.d.def_ 3 (d := D_need_order) rfl, g_need_order := He.glo_ok X G (c.t.d.fact 3 (f := .glo "need_order") rfl),
    d_turned_over := c.t.d.def_ 4 (d := D_turned_over) rfl, g_turned_over := He.glo_ok X G (c.t.d.fact 4 (f := .glo "turned_over") rfl),
    d_backward := c.t.d.def_ 5 (d := D_backward) rfl, g_backward := He.glo_ok X G (c.t.d.fact 5 (f := .glo "backward") rfl),
    d_contrary := c.t.d.def_ 6 (d := D_contrary) rfl, g_contrary := He.glo_ok X G (c.t.d.fact 6 (f := .glo "contrary") rfl),
    d_law_cell_at := c.t.d.def_ 7 (d := D_law_cell_at) rfl, g_law_cell_at := He.glo_ok X G (c.t.d.fact 7 (f := .glo "_law_cell_at") rfl),
    d_law_draw := c.t.d.def_ 8 (d := D_law_draw) rfl, g_law_draw := He.glo_ok X G (c.t.d.fact 8 (f := .glo "_law_draw") rfl),
    d_law_order := c.t.d.def_ 9 (d := D_law_order) rfl, g_law_order := He.glo_ok X G (c.t.d.fact 9 (f := .glo "_law_order") rfl),
    d_law_is_order := c.t.d.def_ 10 (d := D_law_is_order) rfl, g_law_is_order := He.glo_ok X G (c.t.d.fact 10 (f := .glo "_law_is_order") rfl),
    d_law_bent := c.t.d.def_ 11 (d := D_law_bent) rfl, g_law_bent := He.glo_ok X G (c.t.d.fact 11 (f := .glo "_law_bent") rfl),
    d_law_class := c.t.d.def_ 12 (d := D_law_class) rfl, g_law_class := He.glo_ok X G (c.t.d.fact 12 (f := .glo "_law_class") rfl),
    d_law_refused := c.t.d.def_ 13 (d := D_law_refused) rfl, g_law_refused := He.glo_ok X G (c.t.d.fact 13 (f := .glo "_law_refused") rfl),
    d_law := c.t.d.def_ 14 (d := D_law) rfl, g_law := He.glo_ok X G (c.t.d.fact 14 (f := .glo "law") rfl),
    n_isinstance := He.free_ok X G (c.t.d.fact 15 (f := .free "isinstance") rfl),
    n_int := He.free_ok X G (c.t.d.fact 16 (f := .free "int") rfl),
    n_bool := He.free_ok X G (c.t.d.fact 17 (f := .free "bool") rfl),
    n_len := He.free_ok X G (c.t.d.fact 18 (f := .free "len") rfl),
    n_range := He.free_ok X G (c.t.d.fact 19 (f := .free "range") rfl),
    n_list := He.free_ok X G (c.t.d.fact 20 (f := .free "list") rfl),
    n_tuple := He.free_ok X G (c.t.d.fact 21 (f := .free "tuple") rfl),
    n_all := He.free_ok X G (c.t.d.fact 22 (f := .free "all") rfl),
    n_sorted := He.free_ok X G (c.t.d.fact 23 (f := .free "sorted") rfl),
    n_max := He.free_ok X G (c.t.d.fact 24 (f := .free "max") rfl),
    n_min := He.free_ok X G (c.t.d.fact 25 (f := .free "min") rfl),
    n_str := He.free_ok X G (c.t.d.fact 26 (f := .free "str") rfl),
    n_enumerate := He.free_ok X G (c.t.d.fact 27 (f := .free "enumerate") rfl),
    n_ValueError := He.free_ok X G (c.t.d.fact 28 (f := .free "ValueError") rfl),
    c_MOST := He.int_ok X G (c.t.d.fact 29 (f := .int "MOST" 40) rfl),
    g_TurnError := He.glo_ok X G (c.t.d.fact 30 (f := .glo "TurnError") rfl),
    g_NoOrder := He.glo_ok X G (c.t.d.fact 31 (f := .glo "NoOrder") rfl),
    g_NoNumber := He.glo_ok X G (c.t.d.fact 32 (f := .glo "NoNumber") rfl),
    g_NoRow := He.glo_ok X G (c.t.d.fact 33 (f := .glo "NoRow") rfl),
    g_NotUpDown := He.glo_ok X G (c.t.d.fact 34 (f := .glo "NotUpDown") rfl),
    g_NoPattern := He.glo_ok X G (c.t.d.fact 35 (f := .glo "NoPattern") rfl),
    g_NoTree := He.glo_ok X G (c.t.d.fact 36 (f := .glo "NoTree") rfl),
    g_NoLoose := He.glo_ok X G (c.t.d.fact 37 (f := .glo "NoLoose") rfl),
    g_NoRing := He.glo_ok X G (c.t.d.fact 38 (f := .glo "NoRing") rfl),
    g_NoFraction := He.glo_ok X G (c.t.d.fact 39 (f := .glo "NoFraction") rfl),
    g_NoText := He.glo_ok X G (c.t.d.fact 40 (f := .glo "NoText") rfl),
    g_NoDeed := He.glo_ok X G (c.t.d.fact 41 (f := .glo "NoDeed") rfl),
    g_NoLine := He.glo_ok X G (c.t.d.fact 42 (f := .glo "NoLine") rfl),
    x_NoOrder := (He.exc_ok (c.t.d.fact 43 (f := .exc "NoOrder") rfl)).1, k_NoOrder := (He.exc_ok (c.t.d.fact 43 (f := .exc "NoOrder") rfl)).2.1, b_NoOrder := (He.exc_ok (c.t.d.fact 43 (f := .exc "NoOrder") rfl)).2.2.1, t_NoOrder := (He.exc_ok (c.t.d.fact 43 (f := .exc "NoOrder") rfl)).2.2.2, j_NoOrder := classB_ok (List.all_eq_true.mp (show ([(0, "NoOrder")].all fun q => classB K q.1 q.2) = true from (He.ba c.more).1) (0, "NoOrder") (by decide)),
    sep := of_decide_eq_true (He.ba c.more).2 }
abbrev R : PySem.W.OpenRow := PySem.W.OpenLaw.row PySem.Challenge.rw_upanddowns_k03_orders_turned
abbrev hk : PySem.W.Hook := He.hookX 4 fa fn [] tf ex
def ob (s : PySem.W.SharedT) : He.AlX := He.obsX 4 fa fn [] tf ex (HandSHeadRun.getT s)
theorem ob_eq (s : PySem.W.SharedT) : ob s = hk.obs s.abs := He.obsX_eq (HandSHeadRun.getT_eq s)
def loose : List PySem.Str := (["TurnError", "NoOrder", "NoNumber", "NoRow", "NotUpDown", "NoPattern", "NoTree", "NoLoose", "NoRing", "NoFraction", "NoText", "NoDeed", "NoLine", "is_whole", "is_whole_tuple", "is_order", "need_order", "turned_over", "backward", "contrary", "_law_cell_at", "_law_draw", "_law_order", "_law_is_order", "_law_bent", "_law_class", "_law_refused", "MOST"] : List PySem.Str)
theorem run (w : World) : HandSHeadRun.RunEq R (PySem.W.view R.prog [32]) hk ob 4000 loose w := by
  intro os
  kernel_rfl
theorem law_at {w : World} {h : Heap} {K : PySem.W.Frag} {mg : Str → Option Value} {fa1 : Addr} (X : K.In h) (G : h.Ns mainGlobals mg) (hfa : mg "law" = some (.ref fa1)) (c : He.SaysX fa fn [] tf ex w h K) : LamX.LawAtS PySem.Challenge.rw_upanddowns_k03_orders_turned w K CX0 12 63 "_law_script" mg fa1 h := by
  have T := txt_of X G c
  obtain ⟨fd, F⟩ := T.d_law
  have e := hfa.symm.trans T.g_law
  cases e
  have all : ∀ p ∈ tf.map (He.cT K), ∃ d ∈ tf, He.cT K d = p := fun p hp => List.mem_map.mp hp
  have lawin : He.cT K ("law", none) ∈ tf.map (He.cT K) := List.mem_map.mpr ⟨("law", none), by decide, rfl⟩
  refine ⟨fd, tf.map (He.cT K), spLaw5 K (He.cT K ("law", none)).2, fun p hp => ?_, fun p hp => ?_, fun p hp => ?_, fun s u => F.bindsA (ps := ["_law_script"]) (fun _ _ _ _ _ _ us hl => match us, hl with | [_], _ => rfl) s [u] rfl, fun H a ns hl _ hT hS => ⟨a, ns, rfl, hl, hS, hT _ lawin, fun Q hQ => ?_, fun _ => rfl⟩, fun base _ _ TB => ok_law T ⟨TB _ (List.mem_map.mpr ⟨("is_whole_tuple", none), by decide, rfl⟩), TB _ (List.mem_map.mpr ⟨("turned_over", none), by decide, rfl⟩), TB _ (List.mem_map.mpr ⟨("contrary", none), by decide, rfl⟩)⟩ F (TB _ lawin)⟩
  · obtain ⟨d, hd, rfl⟩ := all p hp
    exact c.empty _ hd
  · obtain ⟨d, hd, rfl⟩ := all p hp
    exact c.out _ hd
  · obtain ⟨d, hd, rfl⟩ := all p hp
    exact PySem.W.codeHd_of_K X (c.hd _ hd)
  · have hQ2 : Q ∈ ([("is_whole_tuple", none), ("turned_over", none), ("contrary", none)] : List He.Defn).map (fun d => (He.cT K d).2) := hQ
    obtain ⟨d, hd, rfl⟩ := List.mem_map.mp hQ2
    have hd2 : d ∈ tf := List.mem_append.mpr (Or.inl hd : d ∈ ([("is_whole_tuple", none), ("turned_over", none), ("contrary", none)] : List He.Defn) ∨ d ∈ ([("law", none)] : List He.Defn))
    exact ⟨#[], hT _ (List.mem_map.mpr ⟨d, hd2, rfl⟩), True.intro⟩
end K03
open PySem PySem.W PySem.Calls PyProof.Rows
theorem PySem.Challenge.cw_upanddowns_k03_orders_turned_holds : PySem.Challenge.rw_upanddowns_k03_orders_turned.Holds := by
  w_on; o_law
  refine HandSHeadRun.head_any (r := OpenLaw.row PySem.Challenge.rw_upanddowns_k03_orders_turned) (q := view (OpenLaw.row PySem.Challenge.rw_upanddowns_k03_orders_turned).prog [32]) (H := K03.hk) (ob := K03.ob) (M := 4000) (loose := K03.loose) (d := HandSHeadRun.topDef (OpenLaw.row PySem.Challenge.rw_upanddowns_k03_orders_turned).prog 32) (kwd := []) K03.ob_eq
    (by kernel_rfl) (fun s => by kernel_rfl) K03.run (by kernel_rfl) (by kernel_rfl) (by kernel_rfl) (by rfl) (by first | assumption | decide +kernel) (by decide +kernel) ⟨rfl, rfl, rfl, rfl, rfl, by decide +kernel⟩ ?hw ?hc
  case hw => w_witness2
  case hc =>
    refine LamX.walk_ofTsE (l := PySem.Challenge.rw_upanddowns_k03_orders_turned) (n := 63) (k := 12) (x := "_law_script") (CX := fun _ => L2.CX0) rfl (by decide) (by kernel_rfl) ⟨rfl, by decide, by decide⟩ ?F (fun _ _ _ _ _ z => z)
    intro w mg fa h Y G hmg0
    obtain ⟨K, KX, c⟩ := Y
    have hmg : mg ("law" : PySem.Str) = some (.ref fa) := by
      have e : (HandSHeadRun.topDef (OpenLaw.row PySem.Challenge.rw_upanddowns_k03_orders_turned).prog 32).name = ("law" : PySem.Str) := by kernel_rfl
      rw [← e]
      exact hmg0
    exact ⟨K, KX, K03.law_at KX G hmg c⟩

