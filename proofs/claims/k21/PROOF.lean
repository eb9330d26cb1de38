import PyProof.Rows.All
import Wide.All
import OpenK.AllK
import Wide.FinOn
import HandS.ForMost
import HandS.ForExc
import HandS.Walk
import HandS.Zip
import HandS.TupMul
import HandS.TupAny
import HandS.TupLe
import HandS.IsInst
import HandS.Wide
import HandS.TupSets
import KE.GoesMore
import PyProof.ReprRoads
import HandS.Conv
import HandS.NoneIn
import PyProof.ReprBulk
import HandS.Iter
import HandS.ForSpec
import KE.KExcIs
import HandS.Star
import HandS.Comp
import OpenK.KMeth
import HandS.ListItems
import KE.KItemsList
import HandS.DictTup
import HandS.WordsDict
import KE.KDictPairs
import HandS.SortInts
import HandS.SetFor
import HandS.Strs
import HandS.More
import HandS.Text
import KE.GoesEnumKw
import PyProof.Rows.CallKw2
import HandS.DictComp
import HandS.OwnEq
import KE.DataFind
import KE.KDictKeyed
import KE.KeyNested
import KE.SortData
import PySem.Challenge.RW_timesover_k21_times_of_rings
set_option Elab.async false
set_option linter.all false
set_option maxRecDepth 100000
set_option maxHeartbeats 4000000
namespace Tv
open PySem PySem.Spec PyProof.Rows L2 RZ

/-! ### a great power -/
def CPowG (i j : Int) : Prop := 0 ≤ j ∧ (Builtin.Int.intBits i : Int) * j ≤ 2 ^ 27
section
variable {X : Cx}
theorem op_powG : OpR X (binaryOp .Pow) (rI CPowG fun i j => .int (i ^ j.toNat)) :=
  opI fun _ _ _ _ _ _ _ c q => pow_int c.1 c.2 q
end

/-! ### enumerate over a tuple -/
theorem enum_newT (l : Addr) (its : Array Value) (n : Nat) (dd : Option Addr) (sl : Array (Option Value)) :
    Meets (Builtin.«enumerate.__new__» ⟨[.type "enumerate", .ref l], []⟩) (fun _ R s =>
      s.heap.get? l = some { cls := .type "tuple", dict := dd, data := .seq its n, slots := sl } ∧
      R (.ok (.ret (.ref (s.heap.push { cls := .type "tuple_iterator", data := .fields #[.ref l, .int 0 0] }).objs.size)))
        { s with
          heap := Heap.push (s.heap.push { cls := .type "tuple_iterator", data := .fields #[.ref l, .int 0 0] }) ⟨.type "enumerate", none, .fields #[.none, .bool false, .ref s.heap.objs.size, rawInt 0, .none, .none], #[]⟩ }) :=
  .of_wp fun prog w A R s h => by
    obtain ⟨hp, g, d, tk, os⟩ := s
    obtain ⟨hl, h⟩ := h
    have hS := sub_enumerate
    have hT : Heap.IsTuple (Shared.heap ⟨hp, g, d, tk, os⟩) l its := ⟨_, hl, rfl, n, rfl⟩
    wp_walk using wpAny_loadPart' hl
    refine wpAny_stack_any fun st => wpAny_pure ?_
    split
    · rename_i c _ _ _ _ _
      cases (c == Value.type "enumerate") <;>
        (wp_walk using wpAny_loadPart' hl, wpAny_pyIter_tuple hT; exact ⟨_, rfl, h⟩)
    · wp_walk using wpAny_loadPart' hl, wpAny_pyIter_tuple hT
      exact ⟨_, rfl, h⟩

theorem call_enumT {prog : Program} {w : World} {A : Around} {E : Value → Shared → Prop} {s : Shared} {l : Addr} {its : Array Value} {Q : Value → Shared → Prop}
    (hT : s.heap.IsTuple l its)
    (h : ∀ h', IsEnum h' (s.heap.objs.size + 1) s.heap.objs.size 0 .none → h'.IsTupleIter s.heap.objs.size l 0 →
      (∀ b o, s.heap.get? b = some o → h'.get? b = some o) → Q (.ref (s.heap.objs.size + 1)) { s with heap := h' }) :
    wpAny (model prog w) A (call (.type "enumerate") [.ref l]) Q E s := by
  obtain ⟨⟨c, dd, dt, sl⟩, hl, hc, n, hd⟩ := hT
  obtain rfl : c = .type "tuple" := hc
  obtain rfl : dt = .seq its n := hd
  refine callType_new F.called_enumerate (by decide) (F.typeCall_enumerate_1 _) (F.newCall_enumerate_1 _)
    (fun obj => F.args_object_init_2 obj _) F.entry_enumerate_new (enum_newT l its n dd sl) ⟨hl, ?_⟩
  have hz : (s.heap.push { cls := .type "tuple_iterator", data := .fields #[.ref l, .int 0 0] }).objs.size = s.heap.objs.size + 1 := Heap.size_push ..
  show _ ∧ _
  rw [hz]
  have he : IsEnum ((s.heap.push { cls := .type "tuple_iterator", data := .fields #[.ref l, .int 0 0] }).push
      { cls := .type "enumerate", data := .fields #[.none, .bool false, .ref s.heap.objs.size, rawInt 0, .none, .none] })
      (s.heap.objs.size + 1) s.heap.objs.size 0 .none := by
    have q := Heap.get?_push_size (s.heap.push { cls := .type "tuple_iterator", data := .fields #[.ref l, .int 0 0] })
      (o := { cls := .type "enumerate", data := .fields #[.none, .bool false, .ref s.heap.objs.size, rawInt 0, .none, .none] }) rfl
    rw [hz] at q
    exact q
  have hi := Heap.get?_push_of_some (h := s.heap.push { cls := .type "tuple_iterator", data := .fields #[.ref l, .int 0 0] })
    ⟨.type "enumerate", none, .fields #[.none, .bool false, .ref s.heap.objs.size, rawInt 0, .none, .none], #[]⟩
    (Heap.get?_push_size s.heap (o := { cls := .type "tuple_iterator", data := .fields #[.ref l, .int 0 0] }) rfl)
  exact ⟨⟨_, he, rfl⟩, h _ he ⟨_, hi, rfl, rfl⟩ fun b o x => Heap.get?_push_of_some _ (Heap.get?_push_of_some _ x)⟩

/-- the tuple at a, its items in new pairs -/
def IteT (K : PySem.W.Frag) (a : Addr) : It :=
  ⟨fun i H => ∃ xs x, SqT K H a xs ∧ xs[i]? = some x,
   fun i H v H' => ∃ T x, v = .ref T ∧ H T = none ∧ H' = upd H T (.tup [.int (i : Nat), x]) ∧ ∀ xs, SqT K H a xs → xs[i]? = some x,
   fun i H => ∃ xs, SqT K H a xs ∧ xs.length = i⟩

theorem sqt_inj {X : Cx} {pins : List (Addr × Obj)} {σ : L2.St} {H : Hp} {s : Shared} {a : Addr} {xs ys : List V} (I : Inv X pins σ H s) (h : SqT X.K H a xs) (h' : SqT X.K H a ys) : xs = ys :=
  I.tuple_inj h h'

theorem turn_enumT {P : Program} {w : World} {K : PySem.W.Frag} {elts : List Expr} {kk : Nat} {tpos : Pos} (a e it : Addr) :
    Turn P w K (.Tuple elts kk tpos) (IteT K a) [e, it] e (fun i h => (∃ old, IsEnum h e it i old) ∧ h.IsTupleIter it a i ∧ e ≠ it) where
  mem := by simp
  obj := fun i h st b hb => by
    obtain ⟨⟨old, he⟩, ⟨o, ho, _, hd⟩, _⟩ := st
    rcases (show b = e ∨ b = it by simpa using hb) with z | z
    · rw [z]
      exact ⟨_, he, fun v q => nomatch q⟩
    · rw [z]
      exact ⟨o, ho, fun v q => by rw [hd] at q; cases q⟩
  keep := fun i h h' st k => by
    obtain ⟨⟨old, he⟩, hi, ne⟩ := st
    exact ⟨⟨old, k e (by simp) _ he⟩, hi.at fun o q => k it (by simp) o q, ne⟩
  item := by
    intro X hP hw hK hc i pins s σ H E I hf st hg
    subst hP hw hK
    obtain ⟨⟨old, he⟩, hit, ne⟩ := st
    obtain ⟨xs, x, hq, hx⟩ := hg
    obtain ⟨its, rv, p, hz⟩ := I.tuple hq
    have hp : s.heap.IsTuple a its.toArray := p
    obtain ⟨u, hu, ru⟩ := rv.get hx
    have hel : e < s.heap.objs.size := Heap.lt_size he
    have hil : it < s.heap.objs.size := by
      obtain ⟨_, q, _⟩ := hit
      exact Heap.lt_size q
    have hae : a ≠ e := fun z => by
      obtain ⟨o1, h1, c1, _⟩ := hp
      rw [z] at h1
      have h2 : s.heap.get? e = some _ := he
      rw [h1] at h2
      cases h2
      exact absurd c1 (by simp)
    have hai : a ≠ it := fun z => by
      obtain ⟨o1, h1, c1, _⟩ := hp
      obtain ⟨o2, h2, c2, _⟩ := hit
      rw [z, h2] at h1
      cases h1
      rw [c2] at c1
      exact absurd c1 (by simp)
    have hlt : i < its.toArray.size := by
      obtain ⟨q, _⟩ := List.getElem?_eq_some_iff.mp hu
      simpa using q
    have D := Draws.tuple (prog := X.prog) (w := X.w) (A := X.A.in1) (I.ok.hd hc) it a hai its.toArray
    refine wpAny_pyNext_enum_itemD D he ⟨hit, hp⟩ hlt ne (by simp [Ne.symm hae, ne]) fun x' h' tk hx' ho' hst hT hsz hk => ?_
    have ex : x' = u := by
      have q : its.toArray[i]? = some u := by simpa using hu
      rw [q] at hx'
      exact (Option.some.inj hx').symm
    subst ex
    refine ⟨_, rfl, wpAny_letOwnedTupleGo_enum (s := { s with heap := h', toks := tk + 1 }) ho' fun h'' he' sb => ?_⟩
    have hT2 : h''.get? s.heap.objs.size = some { cls := .type "tuple", data := .seq #[.int i tk, x'] } := (sb.2 _ (Nat.ne_of_gt hel)).trans hT
    have new : ObjOk X.prog X.w (upd H s.heap.objs.size (.tup [.int (i : Nat), x])) h'' s.heap.objs.size (.tup [.int (i : Nat), x]) :=
      ⟨by show 2 ≤ sizeLine; decide, [.int i tk, x'], .cons ⟨_, rfl⟩ (.cons ru .nil), ⟨_, hT2, rfl, _, rfl⟩⟩
    have I1 := I.turnedNew (t' := tk + 1) (ch := [e, it]) (fun b ob hb q => (sb.2 b (fun z => hb (by simp [z]))).trans (hk b ob (fun z => hb (by simp [z])) (fun z => hb (by simp [z])) q)) hf (Nat.le_refl _) new
    refine ⟨.ref s.heap.objs.size, _, I1, rfl, ⟨_, x, rfl, I.hok.fresh (Nat.le_refl _), rfl, fun ys hy => by rw [sqt_inj I hy hq]; exact hx⟩, ⟨⟨x', ?_⟩, hst.1.at fun o q => (sb.2 it (Ne.symm ne)).trans q, ne⟩, fun b hb => ?_⟩
    · rw [show ((i + 1 : Nat) : Int) = (i : Int) + 1 by omega]
      exact he'
    · have hb' : b < s.heap.objs.size := by
        rcases (show b = e ∨ b = it by simpa using hb) with z | z <;> rw [z] <;> assumption
      rw [upd_ne (Nat.ne_of_lt hb')]
      exact (hf b hb).1
  done := by
    intro X hP hw hK hc i pins s σ H E I hf st hg
    subst hP hw hK
    obtain ⟨⟨old, he⟩, hit, ne⟩ := st
    obtain ⟨xs, hq, hx⟩ := hg
    obtain ⟨its, rv, p, hz⟩ := I.tuple hq
    have hp : s.heap.IsTuple a its.toArray := p
    have hai : a ≠ it := fun z => by
      obtain ⟨o1, h1, c1, _⟩ := hp
      obtain ⟨o2, h2, c2, _⟩ := hit
      rw [z, h2] at h1
      cases h1
      rw [c2] at c1
      exact absurd c1 (by simp)
    obtain ⟨f0, f1, f2, f3, f4, f5⟩ := hf it (by simp)
    have hl := rv.length
    have D := Draws.tuple (prog := X.prog) (w := X.w) (A := X.A.in1) (I.ok.hd hc) it a hai its.toArray
    have hn : i = its.toArray.size := by
      rw [List.size_toArray, ← hl]
      exact hx.symm
    subst hn
    exact wpAny_pyNext_enum_endD D he ⟨hit, hp⟩ fun h' eb => ⟨rfl, I.turned (t' := s.toks) (fun b o hb q => eb b o hb q) f0 f1 f3 f4 f5⟩
  self := fun A i s Q E st h => by
    obtain ⟨⟨_, he⟩, _⟩ := st
    exact wpAny_pyIter_enum he h

def iEnT (K : PySem.W.Frag) (ta : TA) : TI := fun σ H R => ta σ H fun vs H1 => ∃ a xs, vs = [.ref a] ∧ SqT K H1 a xs ∧ R (IteT K a) H1
theorem pi_enumT {X : Cx} {e : Expr} {ta : TA} {p pos tpos : Pos} {elts : List Expr} {kk : Nat} (hg : Gl X "enumerate") (hm : X.mg "enumerate" = none) (ha : PA X [e] ta)
    (hs : starEach [e] X.env = [(false, eval e X.env)] := by rfl) : PI X (.Tuple elts kk tpos) (.Call (.Name "enumerate" p) [e] [] pos) (iEnT X.K ta) := by
  refine ⟨fun pins s σ H R I h => Call_ (ld_blt I hg hm boot_enumerate (PyProof.Rows.callWith_type1 (thn (ha.run pos pins s σ H _ I h) fun us s1 w => ?_) hs rfl))⟩
  obtain ⟨vs, H1, I1, r1, a, xs, rfl, hq, q⟩ := w
  cases r1 with
  | cons r rr =>
    cases rr
    cases r
    obtain ⟨its, rv, p', hz⟩ := I1.tuple hq
    have hp : s1.heap.IsTuple a its.toArray := p'
    refine call_enumT hp fun h' he hit hk => wpAny_pyIter_enum he ?_
    refine ⟨s1.heap.objs.size + 1, [s1.heap.objs.size + 1, s1.heap.objs.size], _, _, H1, rfl, I1.kept (t' := s1.toks) hk,
      turn_enumT a (s1.heap.objs.size + 1) s1.heap.objs.size, ⟨⟨.none, he⟩, hit, Nat.succ_ne_self _⟩, fun b hb => ?_, q⟩
    have hle : s1.heap.objs.size ≤ b := by
      rcases (show b = s1.heap.objs.size + 1 ∨ b = s1.heap.objs.size by simpa using hb) with z | z <;> rw [z]
      · exact Nat.le_add_right _ _
      · exact Nat.le_refl _
    exact I1.fpOk hle (I1.hok.fresh hle)
theorem walk_enumT {K : PySem.W.Frag} {a : Addr} {xs : List V} : Walk (IteT K a) xs.length (fun H => SqT K H a xs) (YPair (fun i => some (.int (i : Nat))) (fun i => xs[i]?)) := by
  refine ⟨fun i _ hi q => ⟨xs, xs[i], q, by simp [hi]⟩, fun _ q => ⟨xs, q, rfl⟩, fun i H v H' _ q y => ?_⟩
  obtain ⟨T, x, h1, h2, h3, h4⟩ := y
  exact ⟨T, _, x, h1, h2, h3, rfl, h4 xs q⟩
theorem walk_zipT {K : PySem.W.Frag} {a b : Addr} {xs ys : List V} {n : Nat} (hn : n = min xs.length ys.length) :
    Walk (ItzT K a b) n (fun H => SqT K H a xs ∧ SqT K H b ys) (YPair (fun i => xs[i]?) (fun i => ys[i]?)) := by
  subst hn
  refine ⟨fun i _ hi q => ?_, fun _ q => ⟨xs, ys, q.1, q.2, by omega⟩, fun i H v H' _ q y => ?_⟩
  · have h1 : i < xs.length := by omega
    have h2 : i < ys.length := by omega
    exact ⟨xs, ys, xs[i], ys[i], q.1, q.2, by simp [h1], by simp [h2]⟩
  · obtain ⟨T, x, z, h1, h2, h3, h4, h5⟩ := y
    exact ⟨T, x, z, h1, h2, h3, h4 xs q.1, h5 ys q.2⟩

/-! ### repr of data, where no repr runs -/
theorem call_reprD {X : Cx} (hg : X.A.guards = some []) (hu : X.A.units + 70 < cLine) : CallR X (.builtin "repr") (fun vs H Q => ∃ (a : Addr) (d : PyData),
    vs = [.ref a] ∧ Dp X.K H (.ref a) d ∧ d.showable = true ∧ d.hasDict = false ∧ d.depth ≤ 60 ∧ d.shown.length ≤ sizeLine ∧ Q (.str d.shown) H) := by
  intro pins s σ H vs us Q I r h
  obtain ⟨a, d, rfl, hd, hs, hn, hp, hz, q⟩ := h
  cases r with
  | cons r rr =>
    cases rr
    obtain ⟨as, rd⟩ := Dp.reads I d _ _ hd r
    cases r
    exact repr_of_reads' rd hs (fun z => by rw [hn] at z; cases z) hg (by omega) (fun _ _ e => e)
      (fun h' u tk hk => ⟨.str d.shown, H, I.kept hk, ⟨_, rfl⟩, q⟩) hz
end Tv

namespace Tv
open PySem PySem.Spec PyProof.Rows L2

/-! ### defs that are called where no repr runs -/
/-- as FnOk, but asked only where no repr is running -/
structure FnG (P : Program) (w : World) (K : PySem.W.Frag) (mg : Str → Option Value) (base : Heap) (CX : CXT) (k : Nat) (f : Addr) (fd : FuncData) (ps : List Str) (sp : Sp) : Prop where
  len : ∀ vs H Q E, sp vs H Q E → vs.length = ps.length
  run : ∀ {A : Around} {outer : List Env} {s : Shared} {H : Hp} {args : Args} {us : List Value} {vs : List V} {Q : VK} {E : XK},
    Room k A → A.guards = some [] → Env0 P w K mg base A outer s H → BindsTo s fd args (ps.zip us) → Vals vs us → sp vs H Q E →
      codeAny (model P w) A (.call (.ref f) args) (CR CX outer P w H s Q E) s
section
variable {P : Program} {w : World} {K : PySem.W.Frag} {mg : Str → Option Value} {base : Heap} {CX : CXT} {k : Nat} {f : Addr} {fd : FuncData} {ps : List Str} {sp : Sp}
theorem FnG.of (F : FnOk P w K mg base CX k f fd ps sp) : FnG P w K mg base CX k f fd ps sp :=
  ⟨F.len, fun r _ e b v h => F.run _ _ _ _ _ _ _ _ _ r e b v h⟩
theorem FnG.mono {j : Nat} (F : FnG P w K mg base CX j f fd ps sp) (h : j ≤ k) : FnG P w K mg base CX k f fd ps sp :=
  ⟨F.len, fun r g e b v q => F.run (r.mono h) g e b v q⟩
theorem FnG.imp {sp' : Sp} (F : FnG P w K mg base CX k f fd ps sp) (h : ∀ vs H Q E, sp' vs H Q E → sp vs H Q E) : FnG P w K mg base CX k f fd ps sp' :=
  ⟨fun vs H Q E q => F.len vs H Q E (h _ _ _ _ q), fun r g e b v q => F.run r g e b v (h _ _ _ _ q)⟩

/-- the rule for a def: its body's term and reading, where no repr runs -/
theorem fn_ofG {name qual : Str} {params : Arguments} {body : List Stmt} {scope : Scope} {dV kV doc pm cdv ct oc : Value} {an od : Option Addr} {osl : Array (Option Value)} {N : List Str}
    (lk : K.lookup f = some ⟨oc, od, .func (PySem.W.fnOf name qual params body scope dV kV doc pm an cdv ct), osl⟩)
    (hcd : PySem.W.codeIn K cdv qual = true) (S : FnScope N ps scope) (len : ∀ vs H Q E, sp vs H Q E → vs.length = ps.length)
    (go : ∀ (A : Around) (outer : List Env) (s : Shared) (H : Hp) (vs : List V) (Q : VK) (E : XK),
      Room k (A.deeper (envOfC qual scope s.heap.objs.size f cdv)) → A.guards = some [] → sp vs H Q E →
      ∃ t, PSs (cxOf CX P w K mg base N qual scope f cdv A outer s H E) body t ∧ t { nx := fun _ H' => Q .non H', rt := Q } (start N vs) H) :
    FnG P w K mg base CX (k + 1) f (PySem.W.fnOf name qual params body scope dV kV doc pm an cdv ct) ps sp := by
  constructor
  · exact len
  intro A outer s H args us vs Q E hr gd e0 hb r hsp
  have hIn : K.In s.heap := e0.mod.kin.keeps fun b o e => (e0.bs b o e).1
  have hLim : s.heap.NoLimit := e0.mod.nolimit.keeps fun b o e => (e0.bs b o e).1
  have hKinds : ∀ y ∈ ps.zip us, scope.names.lookup y.1 = some .local ∨
      (scope.names.lookup y.1 = some .cell ∧ ((cellsFrom (s.heap.objs.size + 1) scope.names []).lookup y.1).isSome = true) := by
    rintro ⟨n, v⟩ hy
    cases S.par n (List.of_mem_zip hy).1 with
    | inl q => exact Or.inl q
    | inr q => exact Or.inr ⟨q, PySem.W.cellsFrom_some _ _ _ (Or.inl q)⟩
  obtain ⟨t, ht, hq⟩ := go A outer s H vs Q E (hr.deeper _) gd hsp
  apply codeAny_call_function hr.depth (hIn _ _ lk) rfl S.co S.gen rfl (PySem.W.codeRec_of hIn hcd)
  apply hb
  apply wpAny_newFunctionEnv_cells S.kind hKinds
  intro env he s1 x
  subst he
  refine And.intro (hLim.keeps x.toInCall.keep) (codeAny_func ?_)
  have I := inv_start (CX := CX) (P := P) (w := w) (K := K) (mg := mg) (base := base) (E := E) S hr.hd e0 (len _ _ _ _ hsp) r x
  refine wpAny_mono (ht.run [] s1 (start N vs) H _ I hq) ?_ (fun e s' hs => hs)
  intro fl s' hs
  cases fl with
  | ret u => obtain ⟨v, σ', H', J, rv, q⟩ := hs; exact ⟨v, H', J.os, J.bare, J.base, J.hok, rv, q⟩
  | next => obtain ⟨σ', H', J, q⟩ := hs; exact ⟨V.non, H', J.os, J.bare, J.base, J.hok, rfl, q⟩
  | brk => obtain ⟨_, _, _, q⟩ := hs; exact q.elim
  | cont => obtain ⟨_, _, _, q⟩ := hs; exact q.elim

theorem fun_okG {x qual : Str} {st : Stmt} {N : List Str} (F : Fun K x qual st f fd) (S : FnScope N ps (defScope st)) (len : ∀ vs H Q E, sp vs H Q E → vs.length = ps.length)
    (go : ∀ (cdv : Value) (A : Around) (outer : List Env) (s : Shared) (H : Hp) (vs : List V) (Q : VK) (E : XK),
      Room k (A.deeper (envOfC qual (defScope st) s.heap.objs.size f cdv)) → (A.deeper (envOfC qual (defScope st) s.heap.objs.size f cdv)).guards = some [] → sp vs H Q E →
      ∃ t, PSs (cxOf CX0 P w K mg base N qual (defScope st) f cdv A outer s H E).nox (defBody st) t ∧ t { nx := fun _ H' => Q .non H', rt := Q } (start N vs) H) :
    FnG P w K mg base CX0 (k + 1) f fd ps sp := by
  obtain ⟨oc, od, kV, doc, pm, an, cdv, ct, osl, rfl, lk, hcd⟩ := F.ex
  refine fn_ofG lk hcd S len ?_
  intro A outer s H vs Q E hr hg h
  obtain ⟨t, a, b⟩ := go cdv A outer s H vs Q E hr hg h
  exact ⟨t, a.nox, b⟩
end

section
variable {X : Cx} {CX : CXT} {k : Nat} {f : Addr} {fd : FuncData} {ps : List Str} {sp : Sp} {dvs : List V} {ds : List Value} {E : XK} {x : Str} {p pos : Pos} {e : Expr} {es : List Expr} {t : TA}
theorem end_call {pins : List (Addr × Obj)} {σ : L2.St} {H : Hp} {s : Shared} {Q : VK} {args : Args} (I : Inv X pins σ H s) (hx : Passes CX X E)
    (h : codeAny (model X.prog X.w) X.A (.call (.ref f) args) (CR CX X.stack X.prog X.w H s Q E) s) :
    codeAny (model X.prog X.w) X.A (.call (.ref f) args) (fun r s' => match r with
      | .ok (.ret u) => EP X pins σ Q u s'
      | .ok _ => False
      | .error e => X.xe e s') s := by
  refine codeAny_mono h ?_
  intro r s' q
  rcases r with e | fl
  · exact hx pins σ H s e s' I q
  · cases fl
    case ret u => exact I.after q
    all_goals exact q.elim

theorem pe_callG (F : FnG X.prog X.w X.K X.mg X.base CX k f fd ps sp) (hr : Room k X.A) (gd : X.A.guards = some []) (hg : Gl X x) (hm : X.mg x = some (.ref f)) (hk : PySem.W.keepIn X.K (.ref f) = true)
    (hb : Binds X.K fd ps ds) (hd : Vals dvs ds) (hx : Passes CX X E) (ha : PA X (e :: es) t) (hdb : (x == ("__debug__" : Str)) = false := by decide)
    (he : starEach (e :: es) X.env = (false, eval e X.env) :: starEach es X.env := by rfl) (hpl : (backTo pos (starEach es X.env)).any (·.1) = false := by rfl) :
    PE X (.Call (.Name x p) (e :: es) [] pos) (tCall sp dvs E t) := by
  constructor
  intro pins s σ H Q I h
  refine wpAny_Call_Name_kw (ld_glob I hg hm ?_ hdb)
  refine PySem.W.callWith_K (h₀ := X.base) I.ok.mod.kin hk (thn (ha.run pos pins s σ H _ I h) ?_) he hpl
  rintro us s1 ⟨vs, H1, I1, r, q⟩
  refine ⟨I1.kIn, wpAny_call ?_⟩
  have r2 : Vals (vs ++ dvs) (us ++ ds) := r.append hd
  have hl : (us ++ ds).length = ps.length := r2.length.symm.trans (F.len _ _ _ _ q)
  refine codeAny_mono (end_call I1 hx (F.run hr gd I1.env0 (hb s1 us I1.kIn hl) r2 q)) ?_
  intro r s' q
  rcases r with e | fl
  · exact q
  · cases fl
    case ret u => exact q
    all_goals exact q.elim

/-- f(k = v, ..), f(e, .., k = v, ..) -/
theorem run_kw {ks : List Str} {g : List Value → List Value → List Value} {gV : List V → List V → List V} {pins : List (Addr × Obj)} {σ : L2.St} {H : Hp} {s : Shared} {Q : VK} {us zs : List Value} {vs ws : List V}
    (F : FnG X.prog X.w X.K X.mg X.base CX k f fd ps sp) (hr : Room k X.A) (gd : X.A.guards = some []) (hb : KBinds X.K fd ps ks g gV) (hx : Passes CX X E) (I : Inv X pins σ H s) (r : Vals vs us) (rz : Vals ws zs)
    (h : sp (gV vs ws) H Q E) : wpAny (model X.prog X.w) X.A (call (.ref f) us (ks.zip zs)) (EP X pins σ Q) X.xe s := by
  have r2 := hb.rel r rz
  have hl : (g us zs).length = ps.length := r2.length.symm.trans (F.len _ _ _ _ h)
  refine wpAny_call (codeAny_mono (end_call I hx (F.run hr gd I.env0 (hb.to s us zs I.kIn hl) r2 h)) ?_)
  intro r s' q
  rcases r with e | fl
  · exact q
  · cases fl
    case ret u => exact q
    all_goals exact q.elim
theorem pe_callK0 {ks : List Str} {g : List Value → List Value → List Value} {gV : List V → List V → List V} {kws : List Keyword} {tk : TA} (F : FnG X.prog X.w X.K X.mg X.base CX k f fd ps sp) (hr : Room k X.A) (gd : X.A.guards = some []) (hg : Gl X x) (hm : X.mg x = some (.ref f))
    (hk : PySem.W.keepIn X.K (.ref f) = true) (hb : KBinds X.K fd ps ks g gV) (hx : Passes CX X E) (hkw : PK X kws tk)
    (hall : (backToKw pos (keywordEach kws X.env)).all (·.1.isSome) = true := by rfl) (hks : (backToKw pos (keywordEach kws X.env)).filterMap (·.1) = ks := by rfl)
    (hdb : (x == ("__debug__" : Str)) = false := by decide) (hpl : (backToKw pos (keywordEach kws X.env)).any (·.1.isNone) = false := by rfl) :
    PE X (.Call (.Name x p) [] kws pos) (tCallK sp gV E tNil tk) := by
  constructor
  intro pins s σ H Q I h
  refine wpAny_Call_Name_kw (ld_glob I hg hm ?_ hdb)
  refine PySem.W.callWith_KW0 (h₀ := X.base) I.ok.mod.kin hk hall (thn (hkw.run pos pins s σ H _ I h) ?_) (by exact hpl)
  rintro ws s2 ⟨zs, H2, I2, rz, q2⟩
  refine ⟨I2.kIn, ?_⟩
  rw [hks]
  exact run_kw F hr gd hb hx I2 .nil rz q2
theorem pe_callKG {ks : List Str} {g : List Value → List Value → List Value} {gV : List V → List V → List V} {kws : List Keyword} {tk : TA} (F : FnG X.prog X.w X.K X.mg X.base CX k f fd ps sp) (hr : Room k X.A) (gd : X.A.guards = some []) (hg : Gl X x) (hm : X.mg x = some (.ref f))
    (hk : PySem.W.keepIn X.K (.ref f) = true) (hb : KBinds X.K fd ps ks g gV) (hx : Passes CX X E) (ha : PA X (e :: es) t) (hkw : PK X kws tk)
    (hall : (backToKw pos (keywordEach kws X.env)).all (·.1.isSome) = true := by rfl) (hks : (backToKw pos (keywordEach kws X.env)).filterMap (·.1) = ks := by rfl)
    (hdb : (x == ("__debug__" : Str)) = false := by decide) (he : starEach (e :: es) X.env = (false, eval e X.env) :: starEach es X.env := by rfl)
    (hpl : ((backTo pos (starEach (e :: es) X.env)).any (·.1) || (backToKw pos (keywordEach kws X.env)).any (·.1.isNone)) = false := by rfl) :
    PE X (.Call (.Name x p) (e :: es) kws pos) (tCallK sp gV E t tk) := by
  constructor
  intro pins s σ H Q I h
  refine wpAny_Call_Name_kw (ld_glob I hg hm ?_ hdb)
  refine PySem.W.callWith_KW (h₀ := X.base) I.ok.mod.kin hk hall (thn (ha.run pos pins s σ H _ I h) ?_) hpl he
  rintro us s1 ⟨vs, H1, I1, r, q⟩
  refine thn (hkw.run pos pins s1 σ H1 _ I1 q) ?_
  rintro ws s2 ⟨zs, H2, I2, rz, q2⟩
  refine ⟨I2.kIn, ?_⟩
  rw [hks]
  exact run_kw F hr gd hb hx I2 r rz q2
end

/-! ### the end -/
section
variable {P : Program} {w : World} {K : PySem.W.Frag} {mg mb : Str → Option Value} {CX : CXT} {k : Nat} {fa a : Addr} {fd : FuncData} {x : Str} {sp : Sp} {s1 : Shared} {vs : List Value} {ns : List Int}
abbrev Fine (s1 s' : Shared) (r : Result) : Prop := r = .ok (.ret (.bool true)) ∧ OldK s1.heap s'.heap ∧ s'.os = s1.os ∧ AllBare s'.gens
/-- from one abstract heap in which at most the script is tracked, and it locked -/
theorem end_at {H : Hp} (KX : K.In s1.heap) (hns : s1.heap.Ns mainGlobals mg) (hb : s1.heap.Ns builtinsNs mb) (hbb : ∀ x : Str, x ≠ "__name__" → mb x = bootBuiltins x) (hlim : s1.heap.NoLimit) (hg : s1.gens = #[])
    (ha : s1.heap.get? a = some { cls := .type "list", data := .seq vs.toArray }) (hr : Room k callerA)
    (F : ∀ base : Heap, K.In base → base.Ns mainGlobals mg → FnG P w K mg base CX k fa fd [x] sp) (hbind : ∀ (s : Shared) (u : Value), BindsTo s fd ⟨[u], []⟩ [(x, u)])
    (hsp : sp [.ref a] H (fun v _ => v = .bl true) fun _ _ _ => False) (hCX : ∀ H e s', CX [] H s1 (fun _ _ _ => False) e s' → False)
    (hO : Only H) (hok : HOk P w H s1.heap) (hA : ∀ b u, H b = some u → b = a) (hK : ∀ u, H a = some u → K.lookup a = none) :
    codeAny (model P w) callerA (.call (.ref fa) ⟨[.ref a], []⟩) (fun r s' => Fine s1 s' r) s1 := by
  have free : ∀ {b : Addr} {o : Obj}, s1.heap.get? b = some o → b ≠ a → (hidT s1.heap H).get? b = some o := fun {b o} e ne =>
    hidT_get e (by
      cases q : H b with
      | none => rfl
      | some u => exact absurd (hA b u q) ne)
  have notA : ∀ {b : Addr} {m : Str → Option Value}, s1.heap.Ns b m → b ≠ a := fun {b m} ⟨o, es, ep, e, d, _⟩ z => by
    rw [z, ha] at e
    cases e
    have d' : Data.seq vs.toArray = Data.dict es ep := d
    cases d'
  have ns' : ∀ {b : Addr} {m : Str → Option Value}, s1.heap.Ns b m → (hidT s1.heap H).Ns b m := fun {b m} n => by
    have ne := notA n
    obtain ⟨o, es, ep, e, r⟩ := n
    exact ⟨o, es, ep, free e ne, r⟩
  have kb : K.In (hidT s1.heap H) := fun b o e => by
    cases q : H b with
    | none => exact hidT_get (KX b o e) q
    | some u =>
      have z := hA b u q
      rw [z] at q e
      rw [hK u q] at e
      cases e
  have md : Mod K mg (hidT s1.heap H) := by
    obtain ⟨mc, l1, l2⟩ := hlim
    exact { kin := kb, glob := ns' hns, blt := ⟨mb, ns' hb, hbb⟩, nolimit := ⟨mc, ns' l1, l2⟩ }
  have none' : ∀ b : Addr, b ∉ frs [] := fun b z => by
    have z' : b ∈ ([] : List Addr) := z
    simp at z'
  have e0 : Env0 P w K mg (hidT s1.heap H) callerA [] s1 H :=
    { frames := rfl, mod := md, bs := fun b o e => of_hidT e, bsz := Nat.le_of_eq (hidT_size _ _), funs := trivial, frf := fun b z => absurd z (none' b), hok := hok, bare := .of_eq hg }
  have G := (F _ kb (ns' hns)).run (us := [.ref a]) (vs := [.ref a]) (args := ⟨[.ref a], []⟩) hr rfl e0 (hbind s1 (.ref a)) (.cons rfl .nil) hsp
  refine codeAny_mono G ?_
  intro r s' h
  rcases r with e | fl
  · exact (hCX H e s' h).elim
  · cases fl
    case ret u =>
      obtain ⟨v, H', os, bare, un, hok', r', q⟩ := h
      obtain rfl : v = .bl true := q
      obtain rfl : u = Value.bool true := r'
      refine ⟨rfl, OldK.of_keep ?_, os, bare⟩
      intro b o e
      rcases hO b with z | ⟨ob, xs, z⟩
      · exact un.keep b o e z (none' b) (by simp)
      · obtain ⟨e1, _⟩ := hok b _ z
        obtain ⟨e2, _⟩ := hok' b _ (un.frzs b ob _ z)
        rw [e] at e1
        cases e1
        exact e2
    all_goals exact False.elim h

theorem law_end (KX : K.In s1.heap) (hns : s1.heap.Ns mainGlobals mg) (hb : s1.heap.Ns builtinsNs mb) (hbb : ∀ x : Str, x ≠ "__name__" → mb x = bootBuiltins x) (hlim : s1.heap.NoLimit) (hg : s1.gens = #[])
    (ha : s1.heap.get? a = some { cls := .type "list", data := .seq vs.toArray }) (hi : IntsAre vs ns) (hl : ns.length ≤ sizeLine) (hr : Room k callerA)
    (F : ∀ base : Heap, K.In base → base.Ns mainGlobals mg → FnG P w K mg base CX k fa fd [x] sp) (hbind : ∀ (s : Shared) (u : Value), BindsTo s fd ⟨[u], []⟩ [(x, u)])
    (hsp : ∀ H : Hp, Only H → SqL K H a (ns.map V.int) → sp [.ref a] H (fun v _ => v = .bl true) fun _ _ _ => False) (hCX : ∀ H e s', CX [] H s1 (fun _ _ _ => False) e s' → False) :
    codeAny (model P w) callerA (.call (.ref fa) ⟨[.ref a], []⟩) (fun r s' => Fine s1 s' r) s1 := by
  have rv : Vals (ns.map V.int) vs := vals_ints hi
  cases hk : K.lookup a with
  | some o =>
    have e := KX a o hk
    rw [ha] at e
    cases e
    have hO : Only (fun _ => none) := fun _ => Or.inl rfl
    have hS : SqL K (fun _ => none) a (ns.map V.int) := Or.inr ⟨_, vs.toArray, _, hk, rfl, rfl, rfl, (by rw [List.size_toArray, hi.length]; exact hl), by simpa using rv⟩
    exact end_at KX hns hb hbb hlim hg ha hr F hbind (hsp _ hO hS) hCX hO (fun b u z => by cases z) (fun b u z => by cases z) fun u z => by cases z
  | none =>
    have at_ : (fun b => if b = a then some (HO.frz { cls := .type "list", data := .seq vs.toArray } (.lst (ns.map V.int))) else none : Hp) a = some (HO.frz { cls := .type "list", data := .seq vs.toArray } (.lst (ns.map V.int))) := if_pos rfl
    have only : ∀ b u, (fun b => if b = a then some (HO.frz { cls := .type "list", data := .seq vs.toArray } (.lst (ns.map V.int))) else none : Hp) b = some u → b = a ∧ u = HO.frz { cls := .type "list", data := .seq vs.toArray } (.lst (ns.map V.int)) := fun b u z => by
      by_cases q : b = a
      · rw [q, at_] at z
        exact ⟨q, (Option.some.inj z).symm⟩
      · exact absurd ((if_neg q).symm.trans z) (by simp)
    have hO : Only (fun b => if b = a then some (HO.frz { cls := .type "list", data := .seq vs.toArray } (.lst (ns.map V.int))) else none : Hp) := fun b => by
      by_cases q : b = a
      · exact Or.inr ⟨_, _, if_pos q⟩
      · exact Or.inl (if_neg q)
    refine end_at KX hns hb hbb hlim hg ha hr F hbind (hsp _ hO (Or.inl (Or.inr ⟨_, at_⟩))) hCX hO ?_ (fun b u z => (only b u z).1) fun _ _ => hk
    intro b u z
    obtain ⟨rfl, rfl⟩ := only b u z
    exact ⟨ha, by rw [List.length_map]; exact hl, vs, _, rv, ha⟩
end

/-- what k_head leaves, from the law's promise -/
theorem walk_ofG {l : PySem.W.OpenLaw} {n k : Nat} {q : Program} {loose : List Str} {XP : (Str → Option Value) → Heap → Prop} {YP : World → Heap → Prop} {d : DefRec} {K : Params → PySem.W.Frag} {CX : World → CXT} {sp : World → Sp} {x : Str}
    (hn : l.most = some n) (hn2 : n ≤ sizeLine) (hdf : d.params.defaults = []) (hr : Room k callerA) (hY : ∀ (w : World) (h : Heap), YP w h → (K w.params).In h)
    (F : ∀ (w : World) (mg : Str → Option Value) (fa : Addr) (h : Heap), (K w.params).In h → h.Ns mainGlobals mg → mg d.name = some (.ref fa) →
      ∃ fd : FuncData, (∀ (s : Shared) (u : Value), BindsTo s fd ⟨[u], []⟩ [(x, u)]) ∧ ∀ base : Heap, (K w.params).In base → base.Ns mainGlobals mg → FnG l.prog w (K w.params) mg base (CX w) k fa fd [x] (sp w))
    (hsp : ∀ (w : World) (H : Hp) (a : Addr) (ns : List Int), ns.length ≤ n → Only H → SqL (K w.params) H a (ns.map V.int) → sp w [.ref a] H (fun v _ => v = .bl true) fun _ _ _ => False)
    (hCX : ∀ (w : World) (H : Hp) (s : Shared) (e : Value) (s' : Shared), CX w [] H s (fun _ _ _ => False) e s' → False) :
    PySem.W.WalkO q loose XP YP l.row.toRowW d [] (fun f vs => PySem.call f vs) := by
  apply Att.attach_call hn hdf
  intro w s0 s1 mg mb fa o pm cd doc a vs ns G Y ho hd hcd hmg hobj hints hlen hg
  have KX := hY w _ Y
  obtain ⟨fd, hb, hF⟩ := F w mg fa _ KX G.T.g hmg
  exact law_end KX G.T.g G.T.b G.T.builtins G.T.nolimit hg hobj hints (Nat.le_trans hlen hn2) hr hF hb (fun H hO hS => hsp w H a ns hlen hO hS) (fun H e s' => hCX w H s1 e s')
end Tv

namespace Tv
open PySem PySem.Spec PyProof.Rows L2

/-! ### data -/
/-- what a value stands for: data that never changes, the object at a, a built-in class -/
inductive W where
  | d (x : PyData)
  | r (a : Addr)
  | ty (n : String)
  /-- any other thing that never changes, by what is true of it -/
  | x (φ : Hp → V → Prop)
abbrev W.i (i : Int) : W := .d (.int i)
abbrev W.b (b : Bool) : W := .d (.bool b)
abbrev W.s (s : Str) : W := .d (.str s)
abbrev W.t (xs : List PyData) : W := .d (.tuple xs)
abbrev W.l (xs : List PyData) : W := .d (.list xs)
def Rp (K : PySem.W.Frag) (F : Hp) (v : V) : W → Prop
  | .d x => Dp K F v x
  | .r a => v = .ref a
  | .ty n => v = .ty n
  | .x φ => ∀ G, Same F G → φ G v
inductive RpAll (K : PySem.W.Frag) (F : Hp) : List V → List W → Prop
  | nil : RpAll K F [] []
  | cons {v : V} {vs : List V} {w : W} {ws : List W} : Rp K F v w → RpAll K F vs ws → RpAll K F (v :: vs) (w :: ws)

theorem sqt_mono {K : PySem.W.Frag} {F G : Hp} {a : Addr} {xs : List V} (e : Same F G) (h : SqT K F a xs) : SqT K G a xs := by
  rcases h with (h | ⟨o, h⟩) | h
  · exact Or.inl (Or.inl (e _ _ h))
  · exact Or.inl (Or.inr ⟨o, e _ _ h⟩)
  · exact Or.inr h
mutual
theorem dp_mono {K : PySem.W.Frag} {F G : Hp} (e : Same F G) : ∀ (x : PyData) (v : V), Dp K F v x → Dp K G v x
  | .none, _, h => by cases h; exact .non
  | .bool b, _, h => by cases h; exact .bl b
  | .int i, _, h => by cases h; exact .int i
  | .str s, _, h => by cases h; exact .str s
  | .list xs, _, h => by cases h with | lst q r => exact .lst (e.seq q) (dpAll_mono e xs _ r)
  | .tuple xs, _, h => by cases h with | tup q r => exact .tup (sqt_mono e q) (dpAll_mono e xs _ r)
  | .dict _, _, h => by cases h
theorem dpAll_mono {K : PySem.W.Frag} {F G : Hp} (e : Same F G) : ∀ (xs : List PyData) (vs : List V), DpAll K F vs xs → DpAll K G vs xs
  | [], _, h => by cases h; exact .nil
  | x :: xs, _, h => by cases h with | cons q r => exact .cons (dp_mono e x _ q) (dpAll_mono e xs _ r)
end
section
variable {K : PySem.W.Frag} {F G : Hp}
theorem rp_mono (e : Same F G) {v : V} {w : W} (h : Rp K F v w) : Rp K G v w := by
  cases w with
  | d x => exact dp_mono e x v h
  | r a => exact h
  | ty n => exact h
  | x φ => exact fun G' s => h G' (e.trans s)
theorem rpAll_mono (e : Same F G) : ∀ {vs : List V} {ws : List W}, RpAll K F vs ws → RpAll K G vs ws
  | _, _, .nil => .nil
  | _, _, .cons h t => .cons (rp_mono e h) (rpAll_mono e t)
theorem rpAll_len : ∀ {vs : List V} {ws : List W}, RpAll K F vs ws → vs.length = ws.length
  | _, _, .nil => rfl
  | _, _, .cons _ t => by simp [rpAll_len t]
theorem rpAll_get : ∀ {vs : List V} {ws : List W} {i : Nat} {w : W}, RpAll K F vs ws → ws[i]? = some w → ∃ v, vs[i]? = some v ∧ Rp K F v w
  | _, _, _, _, .nil, e => by simp at e
  | _, _, 0, _, .cons h _, e => by simp at e; subst e; exact ⟨_, by simp, h⟩
  | _, _, i + 1, w, .cons _ t, e => by
    obtain ⟨v, a, b⟩ := rpAll_get (i := i) (w := w) t (by simpa using e)
    exact ⟨v, by simpa using a, b⟩
theorem rpAll_set : ∀ {vs : List V} {ws : List W} (i : Nat) {v : V} {w : W}, RpAll K F vs ws → Rp K F v w → RpAll K F (vs.set i v) (ws.set i w)
  | _, _, _, _, _, .nil, _ => .nil
  | _, _, 0, _, _, .cons _ t, h => .cons h t
  | _, _, i + 1, _, _, .cons q t, h => .cons q (rpAll_set i t h)
theorem rpAll_app : ∀ {vs us : List V} {ws zs : List W}, RpAll K F vs ws → RpAll K F us zs → RpAll K F (vs ++ us) (ws ++ zs)
  | _, _, _, _, .nil, h => h
  | _, _, _, _, .cons q t, h => .cons q (rpAll_app t h)
theorem rpAll_dp : ∀ {vs : List V} {xs : List PyData}, RpAll K F vs (xs.map W.d) → DpAll K F vs xs
  | [], [], _ => .nil
  | _ :: _, x :: xs, .cons h t => .cons h (rpAll_dp t)
theorem dp_rpAll : ∀ {vs : List V} {xs : List PyData}, DpAll K F vs xs → RpAll K F vs (xs.map W.d)
  | _, _, .nil => .nil
  | _, _, .cons h t => .cons h (dp_rpAll t)
theorem dpAll_get {vs : List V} {xs : List PyData} {i : Nat} {x : PyData} (h : DpAll K F vs xs) (e : xs[i]? = some x) : ∃ v, vs[i]? = some v ∧ Dp K F v x :=
  rpAll_get (w := .d x) (dp_rpAll h) (by simp [e])
theorem dpAll_len {vs : List V} {xs : List PyData} (h : DpAll K F vs xs) : vs.length = xs.length := by
  simpa using rpAll_len (dp_rpAll h)
end

/-! ### states -/
/-- what may still change: a list, a dict (keys ints and texts), an instance and its own dict; any other, by what is true of it -/
inductive Bx where
  | l (ws : List W)
  | k (kvs : List (Key × W))
  | o (C dx : Addr) (fs : List (Str × W))
  | w (x : Addr)
  | g (φ : Hp → HO → Prop)
instance : Coe (List W) Bx := ⟨Bx.l⟩
/-- the objects that may still change -/
abbrev UU := Addr → Option Bx
def put (U : UU) (a : Addr) (ws : Bx) : UU := fun b => if b = a then some ws else U b
theorem put_same {U : UU} {a : Addr} {ws : Bx} : put U a ws a = some ws := if_pos rfl
theorem put_ne {U : UU} {a b : Addr} {ws : Bx} (h : b ≠ a) : put U a ws b = U b := if_neg h
theorem put_put {U : UU} {a : Addr} {ws zs : Bx} : put (put U a ws) a zs = put U a zs := by
  funext b
  unfold put
  split <;> rfl
/-- the same keys, each with its thing -/
inductive RpK {κ : Type} (K : PySem.W.Frag) (F : Hp) : List (κ × V) → List (κ × W) → Prop
  | nil : RpK K F [] []
  | cons {k : κ} {v : V} {w : W} {ps : List (κ × V)} {kvs : List (κ × W)} : Rp K F v w → RpK K F ps kvs → RpK K F ((k, v) :: ps) ((k, w) :: kvs)
theorem RpK.mono {κ : Type} {K : PySem.W.Frag} {F G : Hp} (e : Same F G) : ∀ {ps : List (κ × V)} {kvs : List (κ × W)}, RpK K F ps kvs → RpK K G ps kvs
  | _, _, .nil => .nil
  | _, _, .cons h t => .cons (rp_mono e h) (t.mono e)
def Holds (K : PySem.W.Frag) (F H : Hp) (a : Addr) : Bx → Prop
  | .l ws => ∃ vs, H a = some (.lst vs) ∧ vs.length ≤ sizeLine ∧ RpAll K F vs ws
  | .k kvs => ∃ ps, H a = some (.dK ps) ∧ RpK K F ps kvs
  | .o C dx fs => ∃ ps, H a = some (.ins C dx ps) ∧ RpK K F ps fs
  | .w x => H a = some (.own x)
  | .g φ => ∃ o, H a = some o ∧ ∀ G, Same F G → φ G o
theorem Holds.mono {K : PySem.W.Frag} {F G H H' : Hp} {a : Addr} {b : Bx} (h : Holds K F H a b) (e : Same F G) (ha : H' a = H a) : Holds K G H' a b := by
  cases b with
  | l ws =>
    obtain ⟨vs, h1, h2, h3⟩ := h
    exact ⟨vs, ha.trans h1, h2, rpAll_mono e h3⟩
  | k kvs =>
    obtain ⟨ps, h1, h2⟩ := h
    exact ⟨ps, ha.trans h1, h2.mono e⟩
  | o C dx fs =>
    obtain ⟨ps, h1, h2⟩ := h
    exact ⟨ps, ha.trans h1, h2.mono e⟩
  | w x => exact ha.trans h
  | g φ =>
    obtain ⟨o, h1, h2⟩ := h
    exact ⟨o, ha.trans h1, fun G2 e2 => h2 G2 (e.trans e2)⟩
theorem Holds.some {K : PySem.W.Frag} {F H : Hp} {a : Addr} {b : Bx} (h : Holds K F H a b) : ∃ o, H a = some o := by
  cases b with
  | l ws => obtain ⟨vs, h1, _⟩ := h; exact ⟨_, h1⟩
  | k kvs => obtain ⟨ps, h1, _⟩ := h; exact ⟨_, h1⟩
  | o C dx fs => obtain ⟨ps, h1, _⟩ := h; exact ⟨_, h1⟩
  | w x => exact ⟨_, h⟩
  | g φ => obtain ⟨o, h1, _⟩ := h; exact ⟨o, h1⟩
structure Sep (K : PySem.W.Frag) (F : Hp) (U : UU) (H : Hp) : Prop where
  sub : Same F H
  own : ∀ a b, U a = some b → F a = none ∧ Holds K F H a b
/-- what a step leaves as it is -/
structure Kp (F : Hp) (U : UU) (H F2 : Hp) (U2 : UU) (H2 : Hp) : Prop where
  sub : Same F F2
  rest : ∀ b o, H b = some o → F b = none → U b = none → H2 b = some o ∧ F2 b = none ∧ U2 b = none
theorem Kp.refl {F : Hp} {U : UU} {H : Hp} : Kp F U H F U H := ⟨Same.refl F, fun _ _ h f u => ⟨h, f, u⟩⟩
theorem Kp.trans {F F2 F3 H H2 H3 : Hp} {U U2 U3 : UU} (a : Kp F U H F2 U2 H2) (b : Kp F2 U2 H2 F3 U3 H3) : Kp F U H F3 U3 H3 :=
  ⟨a.sub.trans b.sub, fun c o h f u => let ⟨h2, f2, u2⟩ := a.rest c o h f u; b.rest c o h2 f2 u2⟩
section
variable {K : PySem.W.Frag} {F H : Hp} {U : UU}
theorem Sep.free (s : Sep K F U H) {p : Addr} (h : H p = none) : F p = none ∧ U p = none := by
  refine ⟨s.sub.free h, ?_⟩
  cases q : U p with
  | none => rfl
  | some ws =>
    obtain ⟨_, hh⟩ := s.own p ws q
    obtain ⟨o, e⟩ := hh.some
    rw [h] at e
    cases e
/-- a new object that never changes -/
theorem Sep.fix (s : Sep K F U H) {p : Addr} {o : HO} (h : H p = none) : Sep K (upd F p o) U (upd H p o) ∧ Kp F U H (upd F p o) U (upd H p o) := by
  obtain ⟨f, u⟩ := s.free h
  have e1 : Same F (upd F p o) := fun b x e => by rw [upd_ne (ne_of_none e f)]; exact e
  refine ⟨⟨fun b x e => ?_, fun a ws e => ?_⟩, ⟨e1, fun b x e hf hu => ?_⟩⟩
  · by_cases q : b = p
    · rw [q, upd_same] at e
      rw [q, upd_same]
      exact e
    · rw [upd_ne q] at e ⊢
      exact s.sub b x e
  · have ne : a ≠ p := fun z => by rw [z, u] at e; cases e
    obtain ⟨a1, a2⟩ := s.own a ws e
    exact ⟨by rw [upd_ne ne]; exact a1, a2.mono e1 (upd_ne ne)⟩
  · have ne : b ≠ p := ne_of_none e h
    exact ⟨by rw [upd_ne ne]; exact e, by rw [upd_ne ne]; exact hf, hu⟩
/-- a new list that may change -/
theorem Sep.new (s : Sep K F U H) {p : Addr} {vs : List V} {ws : List W} (h : H p = none) (hz : vs.length ≤ sizeLine) (r : RpAll K F vs ws) :
    Sep K F (put U p ws) (upd H p (.lst vs)) ∧ Kp F U H F (put U p ws) (upd H p (.lst vs)) := by
  obtain ⟨f, u⟩ := s.free h
  refine ⟨⟨fun b x e => ?_, fun a zs e => ?_⟩, ⟨Same.refl F, fun b x e hf hu => ?_⟩⟩
  · rw [upd_ne (ne_of_none e f)]
    exact s.sub b x e
  · by_cases q : a = p
    · rw [q, put_same] at e
      cases e
      exact ⟨q ▸ f, vs, by rw [q, upd_same], hz, r⟩
    · rw [put_ne q] at e
      obtain ⟨a1, a2⟩ := s.own a zs e
      exact ⟨a1, a2.mono (Same.refl F) (upd_ne q)⟩
  · have ne : b ≠ p := ne_of_none e h
    exact ⟨by rw [upd_ne ne]; exact e, hf, by rw [put_ne ne]; exact hu⟩
/-- a list is written -/
theorem Sep.write (s : Sep K F U H) {p : Addr} {vs : List V} {ws : List W} {zs : Bx} (h : U p = some zs) (hz : vs.length ≤ sizeLine) (r : RpAll K F vs ws) :
    Sep K F (put U p ws) (upd H p (.lst vs)) ∧ Kp F U H F (put U p ws) (upd H p (.lst vs)) := by
  obtain ⟨f, _⟩ := s.own p zs h
  refine ⟨⟨fun b x e => ?_, fun a ys e => ?_⟩, ⟨Same.refl F, fun b x e hf hu => ?_⟩⟩
  · rw [upd_ne (ne_of_none e f)]
    exact s.sub b x e
  · by_cases q : a = p
    · rw [q, put_same] at e
      cases e
      exact ⟨q ▸ f, vs, by rw [q, upd_same], hz, r⟩
    · rw [put_ne q] at e
      obtain ⟨a1, a2⟩ := s.own a ys e
      exact ⟨a1, a2.mono (Same.refl F) (upd_ne q)⟩
  · have ne : b ≠ p := fun z => by rw [z, h] at hu; cases hu
    exact ⟨by rw [upd_ne ne]; exact e, hf, by rw [put_ne ne]; exact hu⟩
/-- a list is set down for good -/
def cut (U : UU) (a : Addr) : UU := fun b => if b = a then none else U b
theorem cut_ne {U : UU} {a b : Addr} (h : b ≠ a) : cut U a b = U b := if_neg h
theorem cut_same {U : UU} {a : Addr} : cut U a a = none := if_pos rfl
theorem cut_put {U : UU} {a : Addr} {ws : Bx} (h : U a = none) : cut (put U a ws) a = U := by
  funext b
  unfold cut put
  by_cases e : b = a
  · rw [if_pos e, e, h]
  · rw [if_neg e, if_neg e]
theorem Sep.freeze (s : Sep K F U H) {p : Addr} {xs : List PyData} (h : U p = some (.l (xs.map W.d))) :
    ∃ F2, Sep K F2 (cut U p) H ∧ Kp F U H F2 (cut U p) H ∧ Dp K F2 (.ref p) (.list xs) := by
  obtain ⟨f, vs, e, hz, r⟩ := s.own p _ h
  have e1 : Same F (upd F p (.lst vs)) := fun b x q => by rw [upd_ne (ne_of_none q f)]; exact q
  refine ⟨upd F p (.lst vs), ⟨fun b x q => ?_, fun a ws q => ?_⟩, ⟨e1, fun b x q hf hu => ?_⟩, .lst (SqL.of upd_same) (dpAll_mono e1 xs vs (rpAll_dp r))⟩
  · by_cases z : b = p
    · rw [z, upd_same] at q
      rw [z, ← q]
      exact e
    · rw [upd_ne z] at q
      exact s.sub b x q
  · have ne : a ≠ p := fun z => by rw [z, cut_same] at q; cases q
    rw [cut_ne ne] at q
    obtain ⟨a1, a2⟩ := s.own a ws q
    exact ⟨by rw [upd_ne ne]; exact a1, a2.mono e1 rfl⟩
  · have ne : b ≠ p := fun z => by rw [z, h] at hu; cases hu
    exact ⟨q, by rw [upd_ne ne]; exact hf, by rw [cut_ne ne]; exact hu⟩
/-- less may change than was said -/
theorem Sep.less {U' : UU} (s : Sep K F U H) (h : ∀ a ws, U' a = some ws → U a = some ws) : Sep K F U' H := ⟨s.sub, fun a ws e => s.own a ws (h a ws e)⟩
end
abbrev Rho := List (Option W)
structure Sl (K : PySem.W.Frag) (F : Hp) (σ : L2.St) (ρ : Rho) : Prop where
  len : σ.length = ρ.length
  get : ∀ (i : Nat) (w : W), ρ[i]? = some (some w) → ∃ v, σ[i]? = some (some v) ∧ Rp K F v w
theorem Sl.mono {K : PySem.W.Frag} {F G : Hp} {σ : L2.St} {ρ : Rho} (h : Sl K F σ ρ) (e : Same F G) : Sl K G σ ρ :=
  ⟨h.len, fun i w q => let ⟨v, a, b⟩ := h.get i w q; ⟨v, a, rp_mono e b⟩⟩
theorem Sl.set {K : PySem.W.Frag} {F : Hp} {σ : L2.St} {ρ : Rho} {v : V} {w : W} (h : Sl K F σ ρ) (i : Nat) (r : Rp K F v w) : Sl K F (σ.set i (some v)) (ρ.set i (some w)) := by
  refine ⟨by simp [h.len], fun j z q => ?_⟩
  by_cases e : j = i
  · subst e
    by_cases hl : j < ρ.length
    · rw [List.getElem?_set_self hl] at q
      cases q
      exact ⟨v, List.getElem?_set_self (by rw [h.len]; exact hl), r⟩
    · rw [List.getElem?_eq_none (by simpa using hl)] at q
      cases q
  · rw [List.getElem?_set_ne (Ne.symm e)] at q ⊢
    exact h.get j z q
theorem Sl.weak {K : PySem.W.Frag} {F : Hp} {σ : L2.St} {ρ ρ' : Rho} (h : Sl K F σ ρ) (hl : ρ'.length = ρ.length) (q : ∀ (i : Nat) (w : W), ρ'[i]? = some (some w) → ρ[i]? = some (some w)) : Sl K F σ ρ' :=
  ⟨h.len.trans hl.symm, fun i w e => h.get i w (q i w e)⟩
end Tv

namespace Tv
open PySem PySem.Spec PyProof.Rows L2

/-! ### judgements over data -/
def EV (K : PySem.W.Frag) (te : TE) (ρ : Rho) (U : UU) (P : W → UU → Prop) : Prop :=
  ∀ σ F H, Sl K F σ ρ → Sep K F U H → ∀ Q : VK, (∀ v w F2 U2 H2, Kp F U H F2 U2 H2 → Sep K F2 U2 H2 → Rp K F2 v w → P w U2 → Q v H2) → te σ H Q
def ET (K : PySem.W.Frag) (tt : TT) (ρ : Rho) (U : UU) (P : Bool → UU → Prop) : Prop :=
  ∀ σ F H, Sl K F σ ρ → Sep K F U H → ∀ Q : Bool → Hp → Prop, (∀ b F2 U2 H2, Kp F U H F2 U2 H2 → Sep K F2 U2 H2 → P b U2 → Q b H2) → tt σ H Q
def EA (K : PySem.W.Frag) (ta : TA) (ρ : Rho) (U : UU) (P : List W → UU → Prop) : Prop :=
  ∀ σ F H, Sl K F σ ρ → Sep K F U H → ∀ Q : List V → Hp → Prop, (∀ vs ws F2 U2 H2, Kp F U H F2 U2 H2 → Sep K F2 U2 H2 → RpAll K F2 vs ws → P ws U2 → Q vs H2) → ta σ H Q
/-- two operands -/
def R2W (K : PySem.W.Frag) (r : R2) (x y : W) (U : UU) (P : W → UU → Prop) : Prop :=
  ∀ v u F H, Sep K F U H → Rp K F v x → Rp K F u y → ∀ Q : VK, (∀ v w F2 U2 H2, Kp F U H F2 U2 H2 → Sep K F2 U2 H2 → Rp K F2 v w → P w U2 → Q v H2) → r v u H Q
def R1W (K : PySem.W.Frag) (r : V → Hp → VK → Prop) (x : W) (U : UU) (P : W → UU → Prop) : Prop :=
  ∀ v F H, Sep K F U H → Rp K F v x → ∀ Q : VK, (∀ v w F2 U2 H2, Kp F U H F2 U2 H2 → Sep K F2 U2 H2 → Rp K F2 v w → P w U2 → Q v H2) → r v H Q
/-- a call by values -/
def RLW (K : PySem.W.Frag) (r : List V → Hp → VK → Prop) (ws : List W) (U : UU) (P : W → UU → Prop) : Prop :=
  ∀ vs F H, Sep K F U H → RpAll K F vs ws → ∀ Q : VK, (∀ v w F2 U2 H2, Kp F U H F2 U2 H2 → Sep K F2 U2 H2 → Rp K F2 v w → P w U2 → Q v H2) → r vs H Q
/-- a method of a value, by values -/
def RMW (K : PySem.W.Frag) (r : V → List V → Hp → VK → Prop) (x : W) (ws : List W) (U : UU) (P : W → UU → Prop) : Prop :=
  ∀ v vs F H, Sep K F U H → Rp K F v x → RpAll K F vs ws → ∀ Q : VK, (∀ v w F2 U2 H2, Kp F U H F2 U2 H2 → Sep K F2 U2 H2 → Rp K F2 v w → P w U2 → Q v H2) → r v vs H Q
/-- a promise over data -/
abbrev PT' := List W → UU → (W → UU → Prop) → Prop
def spW (K : PySem.W.Frag) (p : PT') : Sp := fun vs H Q _ => ∃ ws F U P, RpAll K F vs ws ∧ Sep K F U H ∧ p ws U P ∧
  ∀ v w F2 U2 H2, Kp F U H F2 U2 H2 → Sep K F2 U2 H2 → Rp K F2 v w → P w U2 → Q v H2

section
variable {K : PySem.W.Frag} {ρ : Rho} {U : UU} {P : W → UU → Prop} {ta tb te tc : TE} {t : TA} {r r' : R2}
theorem ev_var {i : Nat} {w : W} (h : ρ[i]? = some (some w)) (q : P w U) : EV K (tVar i) ρ U P := fun σ F H sl sp Q k => by
  obtain ⟨v, e, rp⟩ := sl.get i w h
  exact ⟨v, e, k v w F U H .refl sp rp q⟩
theorem ev_int {i : Int} (q : P (.i i) U) : EV K (tC (.int i)) ρ U P := fun σ F H _ sp Q k => k _ (.i i) F U H .refl sp (Dp.int i) q
theorem ev_bl {b : Bool} (q : P (.b b) U) : EV K (tC (.bl b)) ρ U P := fun σ F H _ sp Q k => k _ (.b b) F U H .refl sp (Dp.bl b) q
theorem ev_str {s : Str} (q : P (.s s) U) : EV K (tC (.str s)) ρ U P := fun σ F H _ sp Q k => k _ (.s s) F U H .refl sp (Dp.str s) q
theorem ev_non (q : P (.d .none) U) : EV K (tC .non) ρ U P := fun σ F H _ sp Q k => k _ (.d .none) F U H .refl sp Dp.non q
theorem ev_ty {n : String} (q : P (.ty n) U) : EV K (tC (.ty n)) ρ U P := fun σ F H _ sp Q k => k _ (.ty n) F U H .refl sp rfl q
/-- data of the written part -/
theorem ev_kdata {v : V} {x : PyData} (h : Dp K (fun _ => none) v x) (q : P (.d x) U) : EV K (tC v) ρ U P := fun σ F H _ sp Q k =>
  k _ (.d x) F U H .refl sp (dp_mono (fun _ _ z => by cases z) x v h) q
theorem ev_op (h : EV K ta ρ U fun x U1 => EV K tb ρ U1 fun y U2 => R2W K r x y U2 P) : EV K (tOp r ta tb) ρ U P := fun σ F H sl sp Q k =>
  h σ F H sl sp _ fun v x F1 U1 H1 k1 s1 r1 h1 => h1 σ F1 H1 (sl.mono k1.sub) s1 _ fun u y F2 U2 H2 k2 s2 r2 h2 =>
    h2 v u F2 H2 s2 (rp_mono k2.sub r1) r2 Q fun v w F3 U3 H3 k3 s3 r3 q => k v w F3 U3 H3 ((k1.trans k2).trans k3) s3 r3 q
theorem ev_un {r : V → Hp → VK → Prop} (h : EV K ta ρ U fun x U1 => R1W K r x U1 P) : EV K (tUn r ta) ρ U P := fun σ F H sl sp Q k =>
  h σ F H sl sp _ fun v x F1 U1 H1 k1 s1 r1 h1 => h1 v F1 H1 s1 r1 Q fun v w F3 U3 H3 k3 s3 r3 q => k v w F3 U3 H3 (k1.trans k3) s3 r3 q
theorem ev_nil {P : List W → UU → Prop} (q : P [] U) : EA K tNil ρ U P := fun σ F H _ sp Q k => k _ _ F U H .refl sp .nil q
theorem ev_cons {P : List W → UU → Prop} (h : EV K ta ρ U fun x U1 => EA K t ρ U1 fun ws U2 => P (x :: ws) U2) : EA K (tCons ta t) ρ U P := fun σ F H sl sp Q k =>
  h σ F H sl sp _ fun v x F1 U1 H1 k1 s1 r1 h1 => h1 σ F1 H1 (sl.mono k1.sub) s1 _ fun vs ws F2 U2 H2 k2 s2 r2 h2 =>
    k _ _ F2 U2 H2 (k1.trans k2) s2 (.cons (rp_mono k2.sub r1) r2) h2
theorem ev_call {p : PT'} {E : XK} (h : EA K t ρ U fun ws U1 => p ws U1 P) : EV K (tCall (spW K p) [] E t) ρ U P := fun σ F H sl sp Q k =>
  h σ F H sl sp _ fun vs ws F1 U1 H1 k1 s1 r1 h1 => ⟨ws, F1, U1, P, by rw [List.append_nil]; exact r1, s1, h1, fun v w F2 U2 H2 k2 s2 r2 q => k v w F2 U2 H2 (k1.trans k2) s2 r2 q⟩
theorem ev_callK {p : PT'} {E : XK} {gV : List V → List V → List V} {gW : List W → List W → List W} {tk : TA} (hg : ∀ {F : Hp} {vs us : List V} {ws zs : List W}, RpAll K F vs ws → RpAll K F us zs → RpAll K F (gV vs us) (gW ws zs))
    (h : EA K t ρ U fun ws U1 => EA K tk ρ U1 fun zs U2 => p (gW ws zs) U2 P) : EV K (tCallK (spW K p) gV E t tk) ρ U P := fun σ F H sl sp Q k =>
  h σ F H sl sp _ fun vs ws F1 U1 H1 k1 s1 r1 h1 => h1 σ F1 H1 (sl.mono k1.sub) s1 _ fun us zs F2 U2 H2 k2 s2 r2 h2 =>
    ⟨gW ws zs, F2, U2, P, hg (rpAll_mono k2.sub r1) r2, s2, h2, fun v w F3 U3 H3 k3 s3 r3 q => k v w F3 U3 H3 ((k1.trans k2).trans k3) s3 r3 q⟩
theorem ev_cb {r : List V → Hp → VK → Prop} (h : EA K t ρ U fun ws U1 => RLW K r ws U1 P) : EV K (tCB r t) ρ U P := fun σ F H sl sp Q k =>
  h σ F H sl sp _ fun vs ws F1 U1 H1 k1 s1 r1 h1 => h1 vs F1 H1 s1 r1 Q fun v w F3 U3 H3 k3 s3 r3 q => k v w F3 U3 H3 (k1.trans k3) s3 r3 q
theorem ev_tup (h : EA K t ρ U fun ws U1 => ∃ xs, ws = xs.map W.d ∧ xs.length ≤ sizeLine ∧ P (.t xs) U1) : EV K (tTup t) ρ U P := fun σ F H sl sp Q k =>
  h σ F H sl sp _ fun vs ws F1 U1 H1 k1 s1 r1 ⟨xs, e, hz, q⟩ => by
    subst e
    refine ⟨by rw [rpAll_len r1, List.length_map]; exact hz, fun p hp => ?_⟩
    obtain ⟨s2, k2⟩ := s1.fix (o := .tup vs) hp
    exact k _ (.d (.tuple xs)) _ _ _ (k1.trans k2) s2 (.tup (SqT.of upd_same) (dpAll_mono k2.sub xs vs (rpAll_dp r1))) q
/-- a list that is never changed -/
theorem ev_lst (h : EA K t ρ U fun ws U1 => ∃ xs, ws = xs.map W.d ∧ xs.length ≤ sizeLine ∧ P (.l xs) U1) : EV K (tLst t) ρ U P := fun σ F H sl sp Q k =>
  h σ F H sl sp _ fun vs ws F1 U1 H1 k1 s1 r1 ⟨xs, e, hz, q⟩ => by
    subst e
    refine ⟨by rw [rpAll_len r1, List.length_map]; exact hz, fun p hp => ?_⟩
    obtain ⟨s2, k2⟩ := s1.fix (o := .lst vs) hp
    exact k _ (.d (.list xs)) _ _ _ (k1.trans k2) s2 (.lst (SqL.of upd_same) (dpAll_mono k2.sub xs vs (rpAll_dp r1))) q
/-- a list that may change -/
theorem ev_lstM (h : EA K t ρ U fun ws U1 => ws.length ≤ sizeLine ∧ ∀ a, U1 a = none → P (.r a) (put U1 a ws)) : EV K (tLst t) ρ U P := fun σ F H sl sp Q k =>
  h σ F H sl sp _ fun vs ws F1 U1 H1 k1 s1 r1 ⟨hz, q⟩ => by
    have hv : vs.length ≤ sizeLine := by rw [rpAll_len r1]; exact hz
    refine ⟨hv, fun p hp => ?_⟩
    obtain ⟨s2, k2⟩ := s1.new hp hv r1
    exact k _ (.r p) _ _ _ (k1.trans k2) s2 rfl (q p (s1.free hp).2)
theorem ev_chain (h : EV K ta ρ U fun x U1 => EV K tb ρ U1 fun y U2 => R2W K r x y U2 fun z U3 => ∃ b, z = .b b ∧ (b = true → EV K tc ρ U3 fun w U4 => R2W K r' y w U4 P) ∧ (b = false → P (.b false) U3)) :
    EV K (tChain r r' ta tb tc) ρ U P := fun σ F H sl sp Q k =>
  h σ F H sl sp _ fun v x F1 U1 H1 k1 s1 r1 h1 => h1 σ F1 H1 (sl.mono k1.sub) s1 _ fun u y F2 U2 H2 k2 s2 r2 h2 =>
    h2 v u F2 H2 s2 (rp_mono k2.sub r1) r2 _ fun z w F3 U3 H3 k3 s3 r3 ⟨b, e, ht, hf⟩ => by
      subst e
      cases r3
      refine ⟨b, rfl, ?_⟩
      cases b with
      | true =>
        rw [if_pos rfl]
        exact ht rfl σ F3 H3 (sl.mono ((k1.sub.trans k2.sub).trans k3.sub)) s3 _ fun u' y' F4 U4 H4 k4 s4 r4 h4 => h4 u u' F4 H4 s4 (rp_mono (k3.sub.trans k4.sub) r2) r4 Q fun v w F5 U5 H5 k5 s5 r5 q =>
          k v w F5 U5 H5 ((((k1.trans k2).trans k3).trans k4).trans k5) s5 r5 q
      | false =>
        rw [if_neg Bool.false_ne_true]
        exact k _ (.b false) F3 U3 H3 ((k1.trans k2).trans k3) s3 (Dp.bl false) (hf rfl)
theorem ev_andV (h : EV K ta ρ U fun x U1 => ∃ b, x = .b b ∧ (b = true → EV K tb ρ U1 P) ∧ (b = false → P (.b false) U1)) : EV K (tAndV ta tb) ρ U P := fun σ F H sl sp Q k =>
  h σ F H sl sp _ fun v x F1 U1 H1 k1 s1 r1 ⟨b, e, ht, hf⟩ => by
    subst e
    cases r1
    refine ⟨b, rfl, ?_⟩
    cases b with
    | true =>
      rw [if_pos rfl]
      exact ht rfl σ F1 H1 (sl.mono k1.sub) s1 Q fun v w F2 U2 H2 k2 s2 r2 q => k v w F2 U2 H2 (k1.trans k2) s2 r2 q
    | false =>
      rw [if_neg Bool.false_ne_true]
      exact k _ (.b false) F1 U1 H1 k1 s1 (Dp.bl false) (hf rfl)
theorem ev_orV (h : EV K ta ρ U fun x U1 => ∃ b, x = .b b ∧ (b = false → EV K tb ρ U1 P) ∧ (b = true → P (.b true) U1)) : EV K (tOrV ta tb) ρ U P := fun σ F H sl sp Q k =>
  h σ F H sl sp _ fun v x F1 U1 H1 k1 s1 r1 ⟨b, e, hf, ht⟩ => by
    subst e
    cases r1
    refine ⟨b, rfl, ?_⟩
    cases b with
    | true =>
      rw [if_pos rfl]
      exact k _ (.b true) F1 U1 H1 k1 s1 (Dp.bl true) (ht rfl)
    | false =>
      rw [if_neg Bool.false_ne_true]
      exact hf rfl σ F1 H1 (sl.mono k1.sub) s1 Q fun v w F2 U2 H2 k2 s2 r2 q => k v w F2 U2 H2 (k1.trans k2) s2 r2 q
theorem ev_notV (h : EV K ta ρ U fun x U1 => ∃ b, x = .b b ∧ P (.b (!b)) U1) : EV K (tNotV ta) ρ U P := fun σ F H sl sp Q k =>
  h σ F H sl sp _ fun v x F1 U1 H1 k1 s1 r1 ⟨b, e, q⟩ => by
    subst e
    cases r1
    exact ⟨b, rfl, k _ (.b (!b)) F1 U1 H1 k1 s1 (Dp.bl _) q⟩
theorem ev_if {tt : TT} (h : ET K tt ρ U fun b U1 => (b = true → EV K ta ρ U1 P) ∧ (b = false → EV K tb ρ U1 P)) : EV K (tIf tt ta tb) ρ U P := fun σ F H sl sp Q k =>
  h σ F H sl sp _ fun b F1 U1 H1 k1 s1 ⟨ht, hf⟩ => by
    cases b with
    | true =>
      rw [if_pos rfl]
      exact ht rfl σ F1 H1 (sl.mono k1.sub) s1 Q fun v w F2 U2 H2 k2 s2 r2 q => k v w F2 U2 H2 (k1.trans k2) s2 r2 q
    | false =>
      rw [if_neg Bool.false_ne_true]
      exact hf rfl σ F1 H1 (sl.mono k1.sub) s1 Q fun v w F2 U2 H2 k2 s2 r2 q => k v w F2 U2 H2 (k1.trans k2) s2 r2 q
theorem ev_bm {T : String} {r : V → List V → Hp → VK → Prop} (h : EV K ta ρ U fun x U1 => (∀ v F H, Sep K F U1 H → Rp K F v x → tyV K T v H) ∧ EA K t ρ U1 fun ws U2 => RMW K r x ws U2 P) : EV K (tBM K T r ta t) ρ U P := fun σ F H sl sp Q k =>
  h σ F H sl sp _ fun v x F1 U1 H1 k1 s1 r1 ⟨hty, h1⟩ => ⟨hty v F1 H1 s1 r1, h1 σ F1 H1 (sl.mono k1.sub) s1 _ fun vs ws F2 U2 H2 k2 s2 r2 h2 =>
    h2 v vs F2 H2 s2 (rp_mono k2.sub r1) r2 Q fun v w F3 U3 H3 k3 s3 r3 q => k v w F3 U3 H3 ((k1.trans k2).trans k3) s3 r3 q⟩

/-! tests -/
variable {PB : Bool → UU → Prop} {tt tu : TT}
theorem et_test (h : EV K ta ρ U fun x U1 => ∃ b, x = .b b ∧ PB b U1) : ET K (tTest ta) ρ U PB := fun σ F H sl sp Q k =>
  h σ F H sl sp _ fun v x F1 U1 H1 k1 s1 r1 ⟨b, e, q⟩ => by
    subst e
    cases r1
    exact ⟨b, rfl, k b F1 U1 H1 k1 s1 q⟩
theorem et_b (h : EV K ta ρ U fun x U1 => ∃ b, x = .b b ∧ PB b U1) : ET K (tB ta) ρ U PB := et_test h
theorem et_and (h : ET K tt ρ U fun b U1 => (b = true → ET K tu ρ U1 PB) ∧ (b = false → PB false U1)) : ET K (tAnd tt tu) ρ U PB := fun σ F H sl sp Q k =>
  h σ F H sl sp _ fun b F1 U1 H1 k1 s1 ⟨ht, hf⟩ => by
    cases b with
    | true =>
      rw [if_pos rfl]
      exact ht rfl σ F1 H1 (sl.mono k1.sub) s1 Q fun b F2 U2 H2 k2 s2 q => k b F2 U2 H2 (k1.trans k2) s2 q
    | false =>
      rw [if_neg Bool.false_ne_true]
      exact k _ F1 U1 H1 k1 s1 (hf rfl)
theorem et_or (h : ET K tt ρ U fun b U1 => (b = false → ET K tu ρ U1 PB) ∧ (b = true → PB true U1)) : ET K (tOr tt tu) ρ U PB := fun σ F H sl sp Q k =>
  h σ F H sl sp _ fun b F1 U1 H1 k1 s1 ⟨hf, ht⟩ => by
    cases b with
    | true =>
      rw [if_pos rfl]
      exact k _ F1 U1 H1 k1 s1 (ht rfl)
    | false =>
      rw [if_neg Bool.false_ne_true]
      exact hf rfl σ F1 H1 (sl.mono k1.sub) s1 Q fun b F2 U2 H2 k2 s2 q => k b F2 U2 H2 (k1.trans k2) s2 q
theorem et_not (h : ET K tt ρ U fun b U1 => PB (!b) U1) : ET K (tNot tt) ρ U PB := fun σ F H sl sp Q k =>
  h σ F H sl sp _ fun b F1 U1 H1 k1 s1 q => k _ F1 U1 H1 k1 s1 q
theorem et_yes (q : PB true U) : ET K tYes ρ U PB := fun σ F H _ sp Q k => k true F U H .refl sp q
end
end Tv

namespace Tv
open PySem PySem.Spec PyProof.Rows L2

/-! ### statements over data -/
structure EndW where
  nx : Rho → UU → Prop := fun _ _ => False
  rt : W → UU → Prop := fun _ _ => False
  bk : Rho → UU → Prop := fun _ _ => False
  ct : Rho → UU → Prop := fun _ _ => False
  /-- an error of the class at c goes out, its value x; wx: where it goes -/
  er : Rho → Addr → PyData → UU → Prop := fun _ _ _ _ => False
  wx : WX := fun _ _ _ _ => True
structure Ends2 (K : PySem.W.Frag) (F : Hp) (U : UU) (H : Hp) (E : EndW) (D : Ends) : Prop where
  nx : ∀ σ F2 H2 ρ U2, Kp F U H F2 U2 H2 → Sl K F2 σ ρ → Sep K F2 U2 H2 → E.nx ρ U2 → D.nx σ H2
  rt : ∀ v w F2 H2 U2, Kp F U H F2 U2 H2 → Sep K F2 U2 H2 → Rp K F2 v w → E.rt w U2 → D.rt v H2
  bk : ∀ σ F2 H2 ρ U2, Kp F U H F2 U2 H2 → Sl K F2 σ ρ → Sep K F2 U2 H2 → E.bk ρ U2 → D.bk σ H2
  ct : ∀ σ F2 H2 ρ U2, Kp F U H F2 U2 H2 → Sl K F2 σ ρ → Sep K F2 U2 H2 → E.ct ρ U2 → D.ct σ H2
  er : ∀ σ F2 H2 ρ U2 (c d : Addr) (v : V) x, Kp F U H F2 U2 H2 → Sl K F2 σ ρ → Sep K F2 U2 H2 → F2 d = some (.xd [(("value" : Str), v)]) → Dp K F2 v x → E.er ρ c x U2 → E.wx (.ref c) (some d) σ H2
theorem Ends2.on {K : PySem.W.Frag} {F F1 H H1 : Hp} {U U1 : UU} {E : EndW} {D : Ends} (e : Ends2 K F U H E D) (k : Kp F U H F1 U1 H1) : Ends2 K F1 U1 H1 E D :=
  ⟨fun σ F2 H2 ρ U2 k2 => e.nx σ F2 H2 ρ U2 (k.trans k2), fun v w F2 H2 U2 k2 => e.rt v w F2 H2 U2 (k.trans k2), fun σ F2 H2 ρ U2 k2 => e.bk σ F2 H2 ρ U2 (k.trans k2), fun σ F2 H2 ρ U2 k2 => e.ct σ F2 H2 ρ U2 (k.trans k2), fun σ F2 H2 ρ U2 c d v x k2 => e.er σ F2 H2 ρ U2 c d v x (k.trans k2)⟩
def SW (K : PySem.W.Frag) (ts : TS) (ρ : Rho) (U : UU) (E : EndW) : Prop :=
  ∀ σ F H D, Sl K F σ ρ → Sep K F U H → Ends2 K F U H E D → ts D σ H
/-- a target: w goes there -/
def GW (K : PySem.W.Frag) (g : TG) (w : W) (ρ : Rho) (U : UU) (N : Rho → UU → Prop) : Prop :=
  ∀ σ F H v, Sl K F σ ρ → Sep K F U H → Rp K F v w → ∀ Q : L2.St → Hp → Prop, (∀ σ2 F2 H2 ρ2 U2, Kp F U H F2 U2 H2 → Sl K F2 σ2 ρ2 → Sep K F2 U2 H2 → N ρ2 U2 → Q σ2 H2) → g v σ H Q
def GsW (K : PySem.W.Frag) (g : TGs) (ws : List W) (ρ : Rho) (U : UU) (N : Rho → UU → Prop) : Prop :=
  ∀ σ F H vs, Sl K F σ ρ → Sep K F U H → RpAll K F vs ws → ∀ Q : L2.St → Hp → Prop, (∀ σ2 F2 H2 ρ2 U2, Kp F U H F2 U2 H2 → Sl K F2 σ2 ρ2 → Sep K F2 U2 H2 → N ρ2 U2 → Q σ2 H2) → g vs σ H Q

section
variable {K : PySem.W.Frag} {ρ : Rho} {U : UU} {E : EndW} {te ta : TE} {ts tu : TS} {g : TG} {gs : TGs} {N : Rho → UU → Prop} {w : W}
theorem sw_next (h : E.nx ρ U) : SW K tNext ρ U E := fun σ F H D sl sp e => e.nx σ F H ρ U .refl sl sp h
theorem sw_seq (h : SW K ts ρ U { E with nx := fun ρ2 U2 => SW K tu ρ2 U2 E }) : SW K (tSeq ts tu) ρ U E := fun σ F H D sl sp e =>
  h σ F H _ sl sp ⟨fun σ2 F2 H2 ρ2 U2 k sl2 sp2 q => q σ2 F2 H2 D sl2 sp2 (e.on k), e.rt, e.bk, e.ct, e.er⟩
theorem sw_asg (h : EV K te ρ U fun w U1 => GW K g w ρ U1 E.nx) : SW K (tAsg te g) ρ U E := fun σ F H D sl sp e =>
  h σ F H sl sp _ fun v w F1 U1 H1 k1 s1 r1 q => q σ F1 H1 v (sl.mono k1.sub) s1 r1 _ fun σ2 F2 H2 ρ2 U2 k2 sl2 s2 n => e.nx σ2 F2 H2 ρ2 U2 (k1.trans k2) sl2 s2 n
theorem sw_ret (h : EV K te ρ U E.rt) : SW K (tRet te) ρ U E := fun σ F H D sl sp e =>
  h σ F H sl sp _ fun v w F1 U1 H1 k1 s1 r1 q => e.rt v w F1 H1 U1 k1 s1 r1 q
theorem sw_retN (h : E.rt (.d .none) U) : SW K tRetN ρ U E := fun σ F H D sl sp e => e.rt _ (.d .none) F H U .refl sp Dp.non h
theorem sw_drop (h : EV K te ρ U fun _ U1 => E.nx ρ U1) : SW K (tDrop te) ρ U E := fun σ F H D sl sp e =>
  h σ F H sl sp _ fun v w F1 U1 H1 k1 s1 r1 q => e.nx σ F1 H1 ρ U1 k1 (sl.mono k1.sub) s1 q
theorem sw_break (h : E.bk ρ U) : SW K tBreak ρ U E := fun σ F H D sl sp e => e.bk σ F H ρ U .refl sl sp h
theorem sw_cont (h : E.ct ρ U) : SW K tCont ρ U E := fun σ F H D sl sp e => e.ct σ F H ρ U .refl sl sp h
theorem sw_if {c : TT} (h : ET K c ρ U fun b U1 => (b = true → SW K ts ρ U1 E) ∧ (b = false → SW K tu ρ U1 E)) : SW K (tIfS c ts tu) ρ U E := fun σ F H D sl sp e =>
  h σ F H sl sp _ fun b F1 U1 H1 k1 s1 ⟨ht, hf⟩ => by
    cases b with
    | true => rw [if_pos rfl]; exact ht rfl σ F1 H1 D (sl.mono k1.sub) s1 (e.on k1)
    | false => rw [if_neg Bool.false_ne_true]; exact hf rfl σ F1 H1 D (sl.mono k1.sub) s1 (e.on k1)
/-- a, b = e1, e2 -/
theorem sw_par {i j : Nat} {t : TA} (h : EA K t ρ U fun ws U1 => ∃ x y, ws = [x, y] ∧ E.nx ((ρ.set i (some x)).set j (some y)) U1) : SW K (tPar i j t) ρ U E := fun σ F H D sl sp e =>
  h σ F H sl sp _ fun vs ws F1 U1 H1 k1 s1 r1 ⟨x, y, ew, q⟩ => by
    subst ew
    cases r1 with
    | cons a r =>
      cases r with
      | cons b r =>
        cases r
        exact ⟨_, _, rfl, e.nx _ F1 H1 _ U1 k1 (((sl.mono k1.sub).set i a).set j b) s1 q⟩
theorem gw_name {i : Nat} (h : N (ρ.set i (some w)) U) : GW K (gName i) w ρ U N := fun σ F H v sl sp r Q k => k _ F H _ U .refl (sl.set i r) sp h
theorem gsw_nil (h : N ρ U) : GsW K gNil [] ρ U N := fun σ F H vs sl sp r Q k => by
  cases r
  exact ⟨rfl, k σ F H ρ U .refl sl sp h⟩
theorem gsw_cons {ws : List W} (h : GW K g w ρ U fun ρ1 U1 => GsW K gs ws ρ1 U1 N) : GsW K (gCons g gs) (w :: ws) ρ U N := fun σ F H vs sl sp r Q k => by
  cases r with
  | cons a r => exact ⟨_, _, rfl, h σ F H _ sl sp a _ fun σ1 F1 H1 ρ1 U1 k1 sl1 s1 q => q σ1 F1 H1 _ sl1 s1 (rpAll_mono k1.sub r) Q fun σ2 F2 H2 ρ2 U2 k2 => k σ2 F2 H2 ρ2 U2 (k1.trans k2)⟩
theorem gw_tup {n : Nat} {xs : List PyData} (hn : xs.length = n) (h : GsW K gs (xs.map W.d) ρ U N) : GW K (gTup K n gs) (.t xs) ρ U N := fun σ F H v sl sp r Q k => by
  cases r with
  | tup q ra => exact ⟨_, _, rfl, sqt_mono sp.sub q, (dpAll_len ra).trans hn, h σ F H _ sl sp (dp_rpAll ra) Q k⟩
/-- t[i] = e -/
theorem gw_sub {to ti : TE} {st : TSet} (h : EV K to ρ U fun o U1 => EV K ti ρ U1 fun i U2 => ∀ v vo vi F H, Sep K F U2 H → Rp K F v w → Rp K F vo o → Rp K F vi i → ∀ Q : Hp → Prop, (∀ F2 U3 H2, Kp F U2 H F2 U3 H2 → Sep K F2 U3 H2 → N ρ U3 → Q H2) → st vo vi v H Q) :
    GW K (gSub to ti st) w ρ U N := fun σ F H v sl sp r Q k =>
  h σ F H sl sp _ fun vo o F1 U1 H1 k1 s1 r1 h1 => h1 σ F1 H1 (sl.mono k1.sub) s1 _ fun vi i F2 U2 H2 k2 s2 r2 h2 =>
    h2 v vo vi F2 H2 s2 (rp_mono (k1.sub.trans k2.sub) r) (rp_mono k2.sub r1) r2 _ fun F3 U3 H3 k3 s3 q => k σ F3 H3 ρ U3 ((k1.trans k2).trans k3) (sl.mono ((k1.sub.trans k2.sub).trans k3.sub)) s3 q
/-- forgetting -/
theorem sw_weak {ρ' : Rho} {U' : UU} (h : SW K ts ρ' U' E) (hl : ρ'.length = ρ.length) (q : ∀ (i : Nat) (w : W), ρ'[i]? = some (some w) → ρ[i]? = some (some w)) (hu : ∀ a ws, U' a = some ws → U a = some ws) : SW K ts ρ U E := fun σ F H D sl sp e =>
  h σ F H D (sl.weak hl q) (sp.less hu) (e.on ⟨Same.refl F, fun b o hb hf hub => ⟨hb, hf, by
    cases z : U' b with
    | none => rfl
    | some ws => rw [hu b ws z] at hub; cases hub⟩⟩)
/-- the list in slot i is set down for good -/
theorem sw_freeze {i : Nat} {p : Addr} {xs : List PyData} (hi : ρ[i]? = some (some (.r p))) (hp : U p = some (xs.map W.d)) (h : SW K ts (ρ.set i (some (.l xs))) (cut U p) E) : SW K ts ρ U E := fun σ F H D sl sp e => by
  obtain ⟨F2, s2, k2, d2⟩ := sp.freeze hp
  obtain ⟨v, hv, rv⟩ := sl.get i _ hi
  obtain rfl : v = .ref p := rv
  have sl2 := (sl.mono k2.sub).set i (v := .ref p) (w := .l xs) d2
  have es : σ.set i (some (.ref p)) = σ := by
    obtain ⟨hl, he⟩ := List.getElem?_eq_some_iff.mp hv
    rw [← he]
    exact List.set_getElem_self hl
  rw [es] at sl2
  exact h σ F2 H D sl2 s2 (e.on k2)
end

/-! ### walks -/
/-- from F on: n turns, the i-th item is data -/
structure Wk (K : PySem.W.Frag) (J : It) (F : Hp) (n : Nat) (item : Nat → PyData) : Prop where
  go : ∀ i H, i < n → Same F H → J.go i H
  stop : ∀ H, Same F H → J.stop n H
  yld : ∀ i F1 U1 H1 v H2, i < n → Same F F1 → Sep K F1 U1 H1 → J.yld i H1 v H2 → ∃ F2, Kp F1 U1 H1 F2 U1 H2 ∧ Sep K F2 U1 H2 ∧ Dp K F2 v (item i)
def IW (K : PySem.W.Frag) (wi : TI) (ρ : Rho) (U : UU) (P : Nat → (Nat → PyData) → UU → Prop) : Prop :=
  ∀ σ F H, Sl K F σ ρ → Sep K F U H → ∀ R : It → Hp → Prop, (∀ J F2 U2 H2 n item, Kp F U H F2 U2 H2 → Sep K F2 U2 H2 → Wk K J F2 n item → P n item U2 → R J H2) → wi σ H R
section
variable {K : PySem.W.Frag} {ρ : Rho} {U : UU} {E : EndW} {te : TE} {wi : TI} {g : TG} {tb : TS}
/-- for: an invariant by the turn -/
theorem sw_for (h : IW K wi ρ U fun n item U1 => ∃ Iv : Nat → Rho → UU → Prop, Iv 0 ρ U1 ∧
      (∀ i ρ U, i < n → Iv i ρ U → GW K g (.d (item i)) ρ U fun ρ2 U2 => SW K tb ρ2 U2 { E with nx := Iv (i + 1), ct := Iv (i + 1), bk := E.nx }) ∧ ∀ ρ U, Iv n ρ U → E.nx ρ U) :
    SW K (tFor wi g tb) ρ U E := fun σ F H D sl sp e =>
  h σ F H sl sp _ fun J F1 U1 H1 n item k1 s1 wk ⟨Iv, h0, hs, hd⟩ => by
    refine ⟨fun i m σ2 H2 => m = n - i ∧ i ≤ n ∧ ∃ F2 ρ2 U2, Kp F1 U1 H1 F2 U2 H2 ∧ Sl K F2 σ2 ρ2 ∧ Sep K F2 U2 H2 ∧ Iv i ρ2 U2, ⟨n, by simp, Nat.zero_le _, F1, ρ, U1, .refl, sl.mono k1.sub, s1, h0⟩, ?_⟩
    rintro i m σ2 H2 ⟨rfl, hi, F2, ρ2, U2, k2, sl2, s2, inv⟩
    have sub : Same F1 H2 := k2.sub.trans s2.sub
    by_cases hlt : i < n
    · refine .inr ⟨wk.go i H2 hlt sub, fun σ' H' => ∃ F' ρ' U', Kp F1 U1 H1 F' U' H' ∧ Sl K F' σ' ρ' ∧ Sep K F' U' H' ∧ Iv (i + 1) ρ' U', fun σ' H' ⟨F', ρ', U', a, b, c, d⟩ => ⟨n - (i + 1), by omega, rfl, hlt, F', ρ', U', a, b, c, d⟩, fun x H3 y => ?_⟩
      obtain ⟨F3, k3, s3, d3⟩ := wk.yld i F2 U2 H2 x H3 hlt k2.sub s2 y
      refine hs i ρ2 U2 hlt inv σ2 F3 H3 x (sl2.mono k3.sub) s3 d3 _ fun σ4 F4 H4 ρ4 U4 k4 sl4 s4 q => ?_
      have k14 := (k2.trans k3).trans k4
      exact q σ4 F4 H4 _ sl4 s4 ⟨fun σ5 F5 H5 ρ5 U5 k5 sl5 s5 n5 => ⟨F5, ρ5, U5, k14.trans k5, sl5, s5, n5⟩,
        fun v w F5 H5 U5 k5 s5 r5 q5 => e.rt v w F5 H5 U5 (k1.trans (k14.trans k5)) s5 r5 q5,
        fun σ5 F5 H5 ρ5 U5 k5 sl5 s5 n5 => e.nx σ5 F5 H5 ρ5 U5 (k1.trans (k14.trans k5)) sl5 s5 n5,
        fun σ5 F5 H5 ρ5 U5 k5 sl5 s5 n5 => ⟨F5, ρ5, U5, k14.trans k5, sl5, s5, n5⟩,
        fun σ5 F5 H5 ρ5 U5 c d v x k5 sl5 s5 h5 r5 q5 => e.er σ5 F5 H5 ρ5 U5 c d v x (k1.trans (k14.trans k5)) sl5 s5 h5 r5 q5⟩
    · obtain rfl : i = n := by omega
      exact .inl ⟨wk.stop H2 sub, e.nx σ2 F2 H2 ρ2 U2 (k1.trans k2) sl2 s2 (hd ρ2 U2 inv)⟩

/-! comprehensions -/
def wipeR (ρ : Rho) : List Nat → Rho
  | [] => ρ
  | i :: is => (wipeR ρ is).set i none
theorem wipe_eq (σ : L2.St) : ∀ vs : List Nat, wipe σ vs = vs.foldr (fun i s => s.set i none) σ
  | [] => rfl
  | i :: vs => by
    show (wipe σ vs).set i none = _
    rw [wipe_eq σ vs]
    rfl
theorem sl_wipe {F : Hp} {σ : L2.St} (h : Sl K F σ ρ) : ∀ vs : List Nat, Sl K F (wipe σ vs) (wipeR ρ vs)
  | [] => h
  | i :: vs => by
    have q := sl_wipe h vs
    show Sl K F ((wipe σ vs).set i none) ((wipeR ρ vs).set i none)
    refine ⟨by simp [q.len], fun j w e => ?_⟩
    by_cases z : i = j
    · subst z
      rw [List.getElem?_set] at e
      simp at e
    · rw [List.getElem?_set_ne z] at e ⊢
      exact q.get j w e
/-- a target that stores into the comprehension's own slots alone -/
structure Own (g : TG) (vs : List Nat) : Prop where
  own : ∀ v σ H Q, g v σ H Q → g v σ H fun σ2 H2 => wipe σ2 vs = wipe σ vs ∧ Q σ2 H2
structure Owns (g : TGs) (vs : List Nat) : Prop where
  own : ∀ v σ H Q, g v σ H Q → g v σ H fun σ2 H2 => wipe σ2 vs = wipe σ vs ∧ Q σ2 H2
theorem wipe_set {σ : L2.St} {i : Nat} {x : Option V} : ∀ {vs : List Nat}, i ∈ vs → wipe (σ.set i x) vs = wipe σ vs
  | j :: vs, h => by
    show (wipe (σ.set i x) vs).set j none = (wipe σ vs).set j none
    by_cases e : j = i
    · subst e
      have aux : ∀ (us : List Nat) (τ : L2.St), (wipe (τ.set j x) us).set j none = (wipe τ us).set j none := fun us => by
        induction us with
        | nil => intro τ; show (τ.set j x).set j none = τ.set j none; rw [List.set_set]
        | cons k us ih =>
          intro τ
          show ((wipe (τ.set j x) us).set k none).set j none = ((wipe τ us).set k none).set j none
          by_cases z : k = j
          · subst z
            rw [List.set_set, List.set_set]
            exact ih τ
          · rw [List.set_comm _ _ z, List.set_comm _ _ z, ih τ]
      exact aux vs σ
    · have m : i ∈ vs := by
        rcases List.mem_cons.mp h with z | z
        · exact absurd z.symm e
        · exact z
      rw [wipe_set m]
theorem wipe_in {σ : L2.St} {vs : List Nat} : ∀ us : List Nat, (∀ i ∈ us, i ∈ vs) → wipe (wipe σ us) vs = wipe σ vs
  | [], _ => rfl
  | j :: us, h => by
    show wipe ((wipe σ us).set j none) vs = _
    rw [wipe_set (h j (List.mem_cons_self ..)), wipe_in us fun i m => h i (List.mem_cons_of_mem _ m)]
theorem wipe_idem {σ : L2.St} {vs : List Nat} : wipe (wipe σ vs) vs = wipe σ vs := wipe_in vs fun _ h => h
theorem own_name {i : Nat} {vs : List Nat} (h : i ∈ vs) : Own (gName i) vs := ⟨fun v σ H Q q => ⟨wipe_set h, q⟩⟩
theorem owns_nil {vs : List Nat} : Owns gNil vs := ⟨fun v σ H Q q => ⟨q.1, rfl, q.2⟩⟩
theorem owns_cons {g : TG} {gs : TGs} {vs : List Nat} (mg : ∀ v σ H (Q R : L2.St → Hp → Prop), (∀ s h, Q s h → R s h) → g v σ H Q → g v σ H R) (a : Own g vs) (b : Owns gs vs) : Owns (gCons g gs) vs := ⟨fun v σ H Q q => by
  obtain ⟨x, r, e, q⟩ := q
  refine ⟨x, r, e, mg _ _ _ _ _ (fun s h z => ?_) (a.own x σ H _ q)⟩
  obtain ⟨z1, z2⟩ := z
  have z3 := b.own r s h Q z2
  rw [z1] at z3
  exact z3⟩
theorem own_tup {n : Nat} {gs : TGs} {vs : List Nat} (b : Owns gs vs) : Own (gTup K n gs) vs := ⟨fun v σ H Q q => by
  obtain ⟨a, xs, e, h1, h2, q⟩ := q
  exact ⟨a, xs, e, h1, h2, b.own xs σ H Q q⟩⟩
theorem gname_mono {i : Nat} : ∀ (v : V) (σ : L2.St) (H : Hp) (Q R : L2.St → Hp → Prop), (∀ s h, Q s h → R s h) → gName i v σ H Q → gName i v σ H R := fun v σ H Q R k q => k _ _ q

/-- a comprehension: the invariant tells what was made so far; the list is for good -/
theorem ev_lc {tt : TT} {vs : List Nat} {P : W → UU → Prop} (hg : Own g vs) (h : IW K wi ρ U fun n item U1 => ∃ Iv : Nat → List PyData → UU → Prop, Iv 0 [] U1 ∧
      (∀ i acc U, i < n → acc.length ≤ i → Iv i acc U → GW K g (.d (item i)) (wipeR ρ vs) U fun ρ2 U2 => ET K tt ρ2 U2 fun b U3 =>
        (b = true → EV K te ρ2 U3 fun w U4 => ∃ x, w = .d x ∧ acc.length < sizeLine ∧ Iv (i + 1) (acc ++ [x]) U4) ∧ (b = false → Iv (i + 1) acc U3)) ∧
      ∀ acc U, acc.length ≤ n → Iv n acc U → P (.l acc) U) : EV K (tLc wi g tt te vs) ρ U P := fun σ F H sl sp Q k =>
  h σ F H sl sp _ fun J F1 U1 H1 n item k1 s1 wk ⟨Iv, h0, hs, hd⟩ => fun D hD => by
    obtain ⟨fD, uD⟩ := s1.free hD
    -- with the new list at D beside
    refine ⟨fun i m H2 => m = n - i ∧ i ≤ n ∧ ∃ F2 U2 acc vacc, Kp F1 U1 H1 F2 U2 H2 ∧ F2 D = none ∧ U2 D = none ∧ H2 D = some (.lst vacc) ∧ DpAll K F2 vacc acc ∧ acc.length ≤ i ∧ Sep K F2 U2 H2 ∧ Iv i acc U2,
      ⟨n, by simp, Nat.zero_le _, F1, U1, [], [], ?_, fD, uD, upd_same, .nil, Nat.le_refl _, ?_, h0⟩, ?_⟩
    · exact ⟨Same.refl F1, fun b o hb hf hu => ⟨by rw [upd_ne (ne_of_none hb hD)]; exact hb, hf, hu⟩⟩
    · exact ⟨fun b o e => by rw [upd_ne (ne_of_none e fD)]; exact s1.sub b o e, fun a ws e => by
        have ne : a ≠ D := fun z => by rw [z, uD] at e; cases e
        obtain ⟨a1, a2⟩ := s1.own a ws e
        exact ⟨a1, a2.mono (Same.refl _) (upd_ne ne)⟩⟩
    rintro i m H2 ⟨rfl, hi, F2, U2, acc, vacc, k2, f2, u2, hD2, da, hal, s2, inv⟩
    have sub : Same F1 H2 := k2.sub.trans s2.sub
    by_cases hlt : i < n
    · refine .inr ⟨wk.go i H2 hlt sub, fun H' => ∃ F' U' acc' vacc', Kp F1 U1 H1 F' U' H' ∧ F' D = none ∧ U' D = none ∧ H' D = some (.lst vacc') ∧ DpAll K F' vacc' acc' ∧ acc'.length ≤ i + 1 ∧ Sep K F' U' H' ∧ Iv (i + 1) acc' U',
        fun H' ⟨F', U', acc', vacc', a, b, c, d, e, f, g1, h1⟩ => ⟨n - (i + 1), by omega, rfl, hlt, F', U', acc', vacc', a, b, c, d, e, f, g1, h1⟩, fun x H3 y => ?_⟩
      have hh : ∀ R : L2.St → Hp → Prop, g x (wipe σ vs) H3 R → g x (wipe σ vs) H3 fun σ2 H2 => wipe σ2 vs = wipe σ vs ∧ R σ2 H2 := fun R q => by
        have z := hg.own x (wipe σ vs) H3 R q
        rw [wipe_idem] at z
        exact z
      refine hh _ ?_
      obtain ⟨F3, k3, s3, d3⟩ := wk.yld i F2 U2 H2 x H3 hlt k2.sub s2 y
      have sl3 : Sl K F3 (wipe σ vs) (wipeR ρ vs) := (sl_wipe (sl.mono k1.sub) vs).mono (k2.sub.trans k3.sub)
      refine hs i acc U2 hlt hal inv (wipe σ vs) F3 H3 x sl3 s3 d3 _ fun σ4 F4 H4 ρ4 U4 k4 sl4 s4 q => ?_
      refine q σ4 F4 H4 sl4 s4 _ fun b F5 U5 H5 k5 s5 ⟨qt, qf⟩ => ?_
      have kd : Kp F2 U2 H2 F5 U5 H5 := (k3.trans k4).trans k5
      obtain ⟨hD5, f5, u5⟩ := kd.rest D _ hD2 f2 u2
      cases b with
      | true =>
        rw [if_pos rfl]
        refine qt rfl σ4 F5 H5 (sl4.mono k5.sub) s5 _ fun v w F6 U6 H6 k6 s6 r6 ⟨x6, ew, hz, inv6⟩ => ?_
        subst ew
        obtain ⟨hD6, f6, u6⟩ := k6.rest D _ hD5 f5 u5
        have hlen := dpAll_len da
        refine ⟨vacc, hD6, by rw [hlen]; exact hz, F6, U6, acc ++ [x6], vacc ++ [v], ?_, f6, u6, upd_same, ?_, by simp; omega, ?_, inv6⟩
        · have k06 := (k2.trans kd).trans k6
          refine ⟨k06.sub, fun b o hb hf hu => ?_⟩
          have ne : b ≠ D := ne_of_none hb hD
          obtain ⟨c1, c2, c3⟩ := k06.rest b o hb hf hu
          exact ⟨by rw [upd_ne ne]; exact c1, c2, c3⟩
        · have a1 := dpAll_mono (kd.sub.trans k6.sub) acc vacc da
          exact rpAll_dp (by
            rw [List.map_append]
            exact rpAll_app (dp_rpAll a1) (.cons r6 .nil))
        · exact ⟨fun b o e => by rw [upd_ne (ne_of_none e f6)]; exact s6.sub b o e, fun a ws e => by
            have ne : a ≠ D := fun z => by rw [z, u6] at e; cases e
            obtain ⟨a1, a2⟩ := s6.own a ws e
            exact ⟨a1, a2.mono (Same.refl _) (upd_ne ne)⟩⟩
      | false =>
        rw [if_neg Bool.false_ne_true]
        exact ⟨F5, U5, acc, vacc, k2.trans kd, f5, u5, hD5, dpAll_mono kd.sub acc vacc da, Nat.le_succ_of_le hal, s5, qf rfl⟩
    · obtain rfl : i = n := by omega
      refine .inl ⟨wk.stop H2 sub, ?_⟩
      have e1 : Same F2 (upd F2 D (.lst vacc)) := fun b o e => by rw [upd_ne (ne_of_none e f2)]; exact e
      refine k (.ref D) (.l acc) (upd F2 D (.lst vacc)) U2 H2 ⟨k1.sub.trans (k2.sub.trans e1), fun b o hb hf hu => ?_⟩ ⟨fun b o e => ?_, fun a ws e => ?_⟩ (.lst (SqL.of upd_same) (dpAll_mono e1 acc vacc da)) (hd acc U2 hal inv)
      · obtain ⟨b1, b2, b3⟩ := k1.rest b o hb hf hu
        have ne : b ≠ D := ne_of_none b1 hD
        obtain ⟨c1, c2, c3⟩ := k2.rest b o b1 b2 b3
        exact ⟨c1, by rw [upd_ne ne]; exact c2, c3⟩
      · by_cases z : b = D
        · rw [z, upd_same] at e
          rw [z, ← e]
          exact hD2
        · rw [upd_ne z] at e
          exact s2.sub b o e
      · have ne : a ≠ D := fun z => by rw [z, u2] at e; cases e
        obtain ⟨a1, a2⟩ := s2.own a ws e
        exact ⟨by rw [upd_ne ne]; exact a1, a2.mono e1 rfl⟩
end
end Tv

namespace Tv
open PySem PySem.Spec PyProof.Rows L2 RZ

/-! ### a def's body -/
def startR (N : List Str) (ws : List W) : Rho := ws.map some ++ List.replicate (N.length - ws.length) none
abbrev retE (P : W → UU → Prop) : EndW := { nx := fun _ U => P (.d .none) U, rt := P }
theorem sl_start {K : PySem.W.Frag} {F : Hp} {N : List Str} {vs : List V} {ws : List W} (r : RpAll K F vs ws) : Sl K F (L2.start N vs) (startR N ws) := by
  have hl := rpAll_len r
  refine ⟨by simp [L2.start, startR, hl], fun i w e => ?_⟩
  unfold startR at e
  unfold L2.start
  by_cases h : i < ws.length
  · rw [List.getElem?_append_left (by simpa using h), List.getElem?_map] at e
    cases q : ws[i]? with
    | none => rw [q] at e; cases e
    | some w' =>
      rw [q] at e
      cases e
      obtain ⟨v, a, b⟩ := rpAll_get r q
      exact ⟨v, by rw [List.getElem?_append_left (by simpa [hl] using h), List.getElem?_map, a]; rfl, b⟩
  · rw [List.getElem?_append_right (by simpa using h), List.getElem?_replicate] at e
    split at e <;> cases e
section
variable {Pg : Program} {w : World} {K : PySem.W.Frag} {mg : Str → Option Value} {base : Heap} {k : Nat} {f : Addr} {fd : FuncData} {ps N : List Str} {x qual : Str} {st : Stmt} {p : PT'}
theorem okW (Fn : Fun K x qual st f fd) (S : FnScope N ps (defScope st)) (hl : ∀ ws U P, p ws U P → ws.length = ps.length)
    (go : ∀ (cdv : Value) (A : Around) (outer : List Env) (s : Shared) (H : Hp) (E : XK), Room k (A.deeper (envOfC qual (defScope st) s.heap.objs.size f cdv)) →
      (A.deeper (envOfC qual (defScope st) s.heap.objs.size f cdv)).guards = some [] →
      ∃ t, PSs (cxOf CX0 Pg w K mg base N qual (defScope st) f cdv A outer s H E).nox (defBody st) t ∧ ∀ ws U P, p ws U P → SW K t (startR N ws) U (retE P)) :
    FnG Pg w K mg base CX0 (k + 1) f fd ps (spW K p) := by
  refine fun_okG Fn S ?_ ?_
  · rintro vs H Q E ⟨ws, F, U, P, r, _, h, _⟩
    rw [rpAll_len r]
    exact hl ws U P h
  · intro cdv A outer s H vs Q E hr gd h
    obtain ⟨ws, F, U, P, r, sp, hp, q⟩ := h
    obtain ⟨t, a, b⟩ := go cdv A outer s H E hr gd
    refine ⟨t, a, b ws U P hp _ F H _ (sl_start r) sp ⟨?_, ?_, ?_, ?_, ?_⟩⟩
    · exact fun σ F2 H2 ρ U2 k2 _ s2 z => q .non (.d .none) F2 U2 H2 k2 s2 Dp.non z
    · exact fun v w F2 H2 U2 k2 s2 r2 z => q v w F2 U2 H2 k2 s2 r2 z
    · exact fun _ _ _ _ _ _ _ _ z => z.elim
    · exact fun _ _ _ _ _ _ _ _ z => z.elim
    · exact fun _ _ _ _ _ _ _ _ _ _ _ _ _ _ z => z.elim
end

/-! ### operators on data -/
section
variable {K : PySem.W.Frag} {ρ : Rho} {U : UU} {P : W → UU → Prop}
theorem r2_int {g : Int → Int → Int} {i j : Int} (q : P (.i (g i j)) U) : R2W K (rI0 fun i j => .int (g i j)) (.d (.int i)) (.d (.int j)) U P := fun v u F H sp a b Q k => by
  cases a; cases b
  exact ⟨i, j, rfl, rfl, k _ (.i _) F U H .refl sp (Dp.int _) q⟩
theorem r2_intB {g : Int → Int → Bool} {i j : Int} (q : P (.b (g i j)) U) : R2W K (rI0 fun i j => .bl (g i j)) (.d (.int i)) (.d (.int j)) U P := fun v u F H sp a b Q k => by
  cases a; cases b
  exact ⟨i, j, rfl, rfl, k _ (.b _) F U H .refl sp (Dp.bl _) q⟩
theorem r2_intC {C : Int → Int → Prop} {g : Int → Int → Int} {i j : Int} (c : C i j) (q : P (.i (g i j)) U) : R2W K (rI C fun i j => .int (g i j)) (.d (.int i)) (.d (.int j)) U P := fun v u F H sp a b Q k => by
  cases a; cases b
  exact ⟨i, j, rfl, rfl, c, k _ (.i _) F U H .refl sp (Dp.int _) q⟩
theorem r1_int {g : Int → Int} {i : Int} (q : P (.i (g i)) U) : R1W K (rU fun i => .int (g i)) (.d (.int i)) U P := fun v F H sp a Q k => by
  cases a
  exact ⟨i, rfl, k _ (.i _) F U H .refl sp (Dp.int _) q⟩
theorem r2_eqI {i j : Int} (q : P (.b (decide (i = j))) U) : R2W K rEq (.d (.int i)) (.d (.int j)) U P := fun v u F H sp a b Q k => by
  cases a; cases b
  refine ⟨rfl, ?_⟩
  rw [show decide (V.int i = V.int j) = decide (i = j) by simp]
  exact k _ (.b _) F U H .refl sp (Dp.bl _) q
theorem r2_neI {i j : Int} (q : P (.b (!decide (i = j))) U) : R2W K rNe (.d (.int i)) (.d (.int j)) U P := fun v u F H sp a b Q k => by
  cases a; cases b
  refine ⟨rfl, ?_⟩
  rw [show decide (V.int i = V.int j) = decide (i = j) by simp]
  exact k _ (.b _) F U H .refl sp (Dp.bl _) q
theorem r2_eqS {i j : Str} (q : P (.b (decide (i = j))) U) : R2W K rEq (.d (.str i)) (.d (.str j)) U P := fun v u F H sp a b Q k => by
  cases a; cases b
  refine ⟨rfl, ?_⟩
  rw [show decide (V.str i = V.str j) = decide (i = j) by simp]
  exact k _ (.b _) F U H .refl sp (Dp.bl _) q
theorem r2_neS {i j : Str} (q : P (.b (!decide (i = j))) U) : R2W K rNe (.d (.str i)) (.d (.str j)) U P := fun v u F H sp a b Q k => by
  cases a; cases b
  refine ⟨rfl, ?_⟩
  rw [show decide (V.str i = V.str j) = decide (i = j) by simp]
  exact k _ (.b _) F U H .refl sp (Dp.bl _) q
theorem r2_eqD {d e : PyData} (hd : SeqAt.shaped d = true) (he : SeqAt.shaped e = true) (q : P (.b (PyData.eqv d e)) U) : R2W K (rEqD K) (.d d) (.d e) U P := fun v u F H sp a b Q k =>
  ⟨d, e, dp_mono sp.sub d v a, dp_mono sp.sub e u b, hd, he, k _ (.b _) F U H .refl sp (Dp.bl _) q⟩
theorem r2_neD {d e : PyData} (hd : SeqAt.shaped d = true) (he : SeqAt.shaped e = true) (q : P (.b (!PyData.eqv d e)) U) : R2W K (rNeD K) (.d d) (.d e) U P := fun v u F H sp a b Q k =>
  ⟨d, e, dp_mono sp.sub d v a, dp_mono sp.sub e u b, hd, he, k _ (.b _) F U H .refl sp (Dp.bl _) q⟩
theorem atI_map {α β : Type} {f : α → β} {xs : List α} {i : Int} : atI (xs.map f) i = (atI xs i).map f := by
  unfold atI
  rw [List.length_map]
  cases ixN xs.length i with
  | none => rfl
  | some j => simp
theorem atI_rp {F : Hp} {vs : List V} {ws : List W} {i : Int} {w : W} (r : RpAll K F vs ws) (h : atI ws i = some w) : ∃ v, atI vs i = some v ∧ Rp K F v w := by
  unfold atI at h ⊢
  rw [rpAll_len r]
  cases q : ixN ws.length i with
  | none => rw [q] at h; cases h
  | some j =>
    rw [q] at h
    exact rpAll_get r h
theorem atI_dp {F : Hp} {vs : List V} {xs : List PyData} {i : Int} {x : PyData} (r : DpAll K F vs xs) (h : atI xs i = some x) : ∃ v, atI vs i = some v ∧ Dp K F v x :=
  atI_rp (w := .d x) (dp_rpAll r) (by rw [atI_map, h]; rfl)
theorem r2_ixT {xs : List PyData} {i : Int} {x : PyData} (h : atI xs i = some x) (q : P (.d x) U) : R2W K (rIxT K) (.d (.tuple xs)) (.d (.int i)) U P := fun v u F H sp a b Q k => by
  cases b
  cases a with
  | tup hq ra =>
    obtain ⟨v', e, r⟩ := atI_dp ra h
    exact ⟨_, _, i, v', rfl, rfl, sqt_mono sp.sub hq, e, k v' (.d x) F U H .refl sp r q⟩
theorem r2_ixL {xs : List PyData} {i : Int} {x : PyData} (h : atI xs i = some x) (q : P (.d x) U) : R2W K (rIxL K) (.d (.list xs)) (.d (.int i)) U P := fun v u F H sp a b Q k => by
  cases b
  cases a with
  | lst hq ra =>
    obtain ⟨v', e, r⟩ := atI_dp ra h
    exact ⟨_, _, i, v', rfl, rfl, sp.sub.seq hq, e, k v' (.d x) F U H .refl sp r q⟩
theorem r2_ixM {p : Addr} {ws : List W} {i : Int} {w : W} (hu : U p = some ws) (h : atI ws i = some w) (q : P w U) : R2W K (rIxL K) (.r p) (.d (.int i)) U P := fun v u F H sp a b Q k => by
  cases b
  obtain rfl : v = .ref p := a
  obtain ⟨_, vs, e, _, r⟩ := sp.own p ws hu
  obtain ⟨v', e', r'⟩ := atI_rp r h
  exact ⟨p, vs, i, v', rfl, rfl, SqL.of e, e', k v' w F U H .refl sp r' q⟩
theorem r2_catT {xs ys : List PyData} (hz : xs.length + ys.length ≤ sizeLine) (q : P (.t (xs ++ ys)) U) : R2W K (rCatA K) (.d (.tuple xs)) (.d (.tuple ys)) U P := fun v u F H sp a b Q k => by
  cases a with
  | tup ha ra =>
    cases b with
    | tup hb rb =>
      rename_i A vs B us
      have l1 := dpAll_len ra
      have l2 := dpAll_len rb
      refine ⟨_, _, vs, us, rfl, rfl, sqt_mono sp.sub ha, sqt_mono sp.sub hb, by omega, fun z => ?_, fun _ z => ?_, fun _ z p hp => ?_⟩
      · have e : xs = [] := by
          rw [z] at l1
          exact List.eq_nil_of_length_eq_zero l1.symm
        rw [e, List.nil_append] at q
        exact k _ (.t ys) F U H .refl sp (.tup hb rb) q
      · have e : ys = [] := by
          rw [z] at l2
          exact List.eq_nil_of_length_eq_zero l2.symm
        rw [e, List.append_nil] at q
        exact k _ (.t xs) F U H .refl sp (.tup ha ra) q
      · obtain ⟨s2, k2⟩ := sp.fix (o := .tup (vs ++ us)) hp
        refine k _ (.t (xs ++ ys)) _ _ _ k2 s2 (.tup (SqT.of upd_same) ?_) q
        refine dpAll_mono k2.sub _ _ (rpAll_dp ?_)
        rw [List.map_append]
        exact rpAll_app (dp_rpAll ra) (dp_rpAll rb)
/-- sign in (signs) -/
theorem inV_strs (s : Str) : ∀ xs : List Str, inV (.str s) (xs.map V.str) = decide (s ∈ xs)
  | [] => rfl
  | y :: ys => by
    show (eqV (.str y) (.str s) || inV (.str s) (ys.map V.str)) = _
    rw [inV_strs s ys]
    have e : eqV (.str y) (.str s) = decide (y = s) := by first | rfl | simp [eqV]
    rw [e]
    by_cases h : y = s
    · simp [h]
    · have h' : ¬ s = y := fun z => h z.symm
      simp [h, h']
theorem dp_strs {F : Hp} : ∀ {vs : List V} {xs : List Str}, DpAll K F vs (xs.map PyData.str) → vs = xs.map V.str
  | [], [], _ => rfl
  | _ :: _, x :: xs, .cons h t => by
    cases h
    rw [dp_strs t]
    rfl
theorem r2_inST {s : Str} {xs : List Str} (q : P (.b (decide (s ∈ xs))) U) : R2W K (rIn K false) (.d (.str s)) (.d (.tuple (xs.map .str))) U P := fun v u F H sp a b Q k => by
  cases a
  cases b with
  | tup hb rb =>
    have e := dp_strs rb
    subst e
    refine ⟨_, _, rfl, Or.inr (sqt_mono sp.sub hb), rfl, ?_, ?_⟩
    · rw [List.all_eq_true]
      intro y hy
      obtain ⟨z, _, rfl⟩ := List.mem_map.mp hy
      rfl
    · show Q (.bl (if false = true then _ else inV (.str s) (xs.map V.str))) H
      rw [if_neg Bool.false_ne_true, inV_strs]
      exact k _ (.b _) F U H .refl sp (Dp.bl _) q

/-! slices -/
def EO (K : PySem.W.Frag) (to : TO) (ρ : Rho) (U : UU) (P : Option Int → UU → Prop) : Prop :=
  ∀ σ F H, Sl K F σ ρ → Sep K F U H → ∀ Q : Option Int → Hp → Prop, (∀ o F2 U2 H2, Kp F U H F2 U2 H2 → Sep K F2 U2 H2 → P o U2 → Q o H2) → to σ H Q
theorem eo_none {P : Option Int → UU → Prop} (q : P none U) : EO K tNoPart ρ U P := fun σ F H _ sp Q k => k none F U H .refl sp q
theorem eo_some {te : TE} {P : Option Int → UU → Prop} (h : EV K te ρ U fun w U1 => ∃ i, w = .i i ∧ P (some i) U1) : EO K (tPart te) ρ U P := fun σ F H sl sp Q k =>
  h σ F H sl sp _ fun v w F1 U1 H1 k1 s1 r1 ⟨i, e, q⟩ => by
    subst e
    cases r1
    exact ⟨i, rfl, k _ F1 U1 H1 k1 s1 q⟩
def cutD (xs : List PyData) (lo hi : Option Int) : List PyData := (xs.drop (HT.sIx xs.length 0 lo)).take (HT.sIx xs.length xs.length hi - HT.sIx xs.length 0 lo)
theorem dpAll_cut {F : Hp} {vs : List V} {xs : List PyData} (r : DpAll K F vs xs) (lo hi : Option Int) : DpAll K F (cutV vs lo hi) (cutD xs lo hi) := by
  have dr : ∀ (n : Nat) {vs : List V} {xs : List PyData}, DpAll K F vs xs → DpAll K F (vs.drop n) (xs.drop n) := fun n => by
    induction n with
    | zero => intro vs xs h; simpa using h
    | succ n ih =>
      intro vs xs h
      cases h with
      | nil => simpa using DpAll.nil
      | cons a t => simpa using ih t
  have tk : ∀ (n : Nat) {vs : List V} {xs : List PyData}, DpAll K F vs xs → DpAll K F (vs.take n) (xs.take n) := fun n => by
    induction n with
    | zero => intro vs xs h; simpa using DpAll.nil
    | succ n ih =>
      intro vs xs h
      cases h with
      | nil => simpa using DpAll.nil
      | cons a t => simpa using DpAll.cons a (ih t)
  unfold cutV cutD
  rw [dpAll_len r]
  exact tk _ (dr _ r)
theorem ev_slT {te : TE} {tl th : TO} (h : EV K te ρ U fun x U1 => EO K tl ρ U1 fun lo U2 => EO K th ρ U2 fun hi U3 => ∃ xs, x = .t xs ∧ P (.t (cutD xs lo hi)) U3) : EV K (tSl (rSlA K) te tl th) ρ U P := fun σ F H sl sp Q k =>
  h σ F H sl sp _ fun v x F1 U1 H1 k1 s1 r1 h1 => h1 σ F1 H1 (sl.mono k1.sub) s1 _ fun lo F2 U2 H2 k2 s2 h2 => h2 σ F2 H2 (sl.mono (k1.sub.trans k2.sub)) s2 _ fun hi F3 U3 H3 k3 s3 ⟨xs, e, q⟩ => by
    subst e
    have r3 := rp_mono (k2.sub.trans k3.sub) r1
    have k0 := (k1.trans k2).trans k3
    cases r3 with
    | tup hq ra =>
      rename_i A vs
      have rc := dpAll_cut ra lo hi
      refine ⟨A, vs, rfl, sqt_mono s3.sub hq, fun z => ?_, fun z p hp => ?_⟩
      · refine k _ (.t _) F3 U3 H3 k0 s3 (.tup hq ?_) q
        have e : cutV vs lo hi = vs := by
          unfold cutV
          rw [z.1, z.2]
          simp
        rw [e] at rc
        exact rc
      · obtain ⟨s4, k4⟩ := s3.fix (o := .tup (cutV vs lo hi)) hp
        exact k _ (.t _) _ _ _ (k0.trans k4) s4 (.tup (SqT.of upd_same) (dpAll_mono k4.sub _ _ rc)) q
theorem ev_slL {te : TE} {tl th : TO} (h : EV K te ρ U fun x U1 => EO K tl ρ U1 fun lo U2 => EO K th ρ U2 fun hi U3 => ∃ xs, x = .l xs ∧ P (.l (cutD xs lo hi)) U3) : EV K (tSl (rSlL K) te tl th) ρ U P := fun σ F H sl sp Q k =>
  h σ F H sl sp _ fun v x F1 U1 H1 k1 s1 r1 h1 => h1 σ F1 H1 (sl.mono k1.sub) s1 _ fun lo F2 U2 H2 k2 s2 h2 => h2 σ F2 H2 (sl.mono (k1.sub.trans k2.sub)) s2 _ fun hi F3 U3 H3 k3 s3 ⟨xs, e, q⟩ => by
    subst e
    have r3 := rp_mono (k2.sub.trans k3.sub) r1
    have k0 := (k1.trans k2).trans k3
    cases r3 with
    | lst hq ra =>
      rename_i A vs
      have rc := dpAll_cut ra lo hi
      refine ⟨A, vs, rfl, s3.sub.seq hq, fun p hp => ?_⟩
      obtain ⟨s4, k4⟩ := s3.fix (o := .lst (cutV vs lo hi)) hp
      exact k _ (.l _) _ _ _ (k0.trans k4) s4 (.lst (SqL.of upd_same) (dpAll_mono k4.sub _ _ rc)) q
end
end Tv

namespace Tv
open PySem PySem.Spec PyProof.Rows L2 RZ

section
variable {K : PySem.W.Frag} {ρ : Rho} {U : UU} {P : W → UU → Prop} {PI' : Nat → (Nat → PyData) → UU → Prop}
/-! ### what is walked -/
theorem getD_of {xs : List PyData} {i : Nat} (h : i < xs.length) : xs[i]? = some (xs.getD i .none) := by
  rw [List.getD_eq_getElem?_getD, List.getElem?_eq_getElem h]
  rfl
theorem iw_list {tl : TE} (h : EV K tl ρ U fun w U1 => ∃ xs, w = .l xs ∧ PI' xs.length (fun i => xs.getD i .none) U1) : IW K (iList K tl) ρ U PI' := fun σ F H sl sp R k =>
  h σ F H sl sp _ fun v w F1 U1 H1 k1 s1 r1 ⟨xs, e, q⟩ => by
    subst e
    cases r1 with
    | lst hq ra =>
      rename_i A vs
      have hl := dpAll_len ra
      refine ⟨A, rfl, ⟨vs, s1.sub.seq hq⟩, k _ F1 U1 H1 _ _ k1 s1 ⟨fun i H2 hi e => ?_, fun H2 e => ⟨vs, e.seq hq, by omega⟩, fun i F2 U2 H2 v H3 hi e s2 y => ?_⟩ q⟩
      · have hi' : i < vs.length := by omega
        exact ⟨vs, vs[i], e.seq hq, by simp [hi']⟩
      · obtain ⟨rfl, hv⟩ := y
        obtain ⟨v', e1, e2⟩ := dpAll_get ra (getD_of hi)
        have e3 := hv vs ((e.trans s2.sub).seq hq)
        rw [e1] at e3
        obtain rfl := Option.some.inj e3
        exact ⟨F2, .refl, s2, dp_mono e _ _ e2⟩
theorem iw_tup {tl : TE} (h : EV K tl ρ U fun w U1 => ∃ xs, w = .t xs ∧ PI' xs.length (fun i => xs.getD i .none) U1) : IW K (iTup K tl) ρ U PI' := fun σ F H sl sp R k =>
  h σ F H sl sp _ fun v w F1 U1 H1 k1 s1 r1 ⟨xs, e, q⟩ => by
    subst e
    cases r1 with
    | tup hq ra =>
      rename_i A vs
      have hl := dpAll_len ra
      refine ⟨A, rfl, ⟨vs, sqt_mono s1.sub hq⟩, k _ F1 U1 H1 _ _ k1 s1 ⟨fun i H2 hi e => ?_, fun H2 e => ⟨vs, sqt_mono e hq, by omega⟩, fun i F2 U2 H2 v H3 hi e s2 y => ?_⟩ q⟩
      · have hi' : i < vs.length := by omega
        exact ⟨vs, vs[i], sqt_mono e hq, by simp [hi']⟩
      · obtain ⟨rfl, hv⟩ := y
        obtain ⟨v', e1, e2⟩ := dpAll_get ra (getD_of hi)
        have e3 := hv vs (sqt_mono (e.trans s2.sub) hq)
        rw [e1] at e3
        obtain rfl := Option.some.inj e3
        exact ⟨F2, .refl, s2, dp_mono e _ _ e2⟩
theorem wk_range {F : Hp} {lo : Int} {n : Nat} : Wk K (Itr lo n) F n (fun i => .int (lo + i)) :=
  ⟨fun i H hi _ => hi, fun H _ => Nat.le_refl n, fun i F1 U1 H1 v H2 hi e s y => by
    obtain ⟨rfl, rfl⟩ := y
    exact ⟨F1, .refl, s, Dp.int _⟩⟩
theorem iw_rng1 {ta : TA} (h : EA K ta ρ U fun ws U1 => ∃ j : Int, ws = [.i j] ∧ -(2 ^ 62) ≤ j ∧ j < 2 ^ 62 ∧ PI' j.toNat (fun i => .int (0 + (i : Nat))) U1) : IW K (iRng1 ta) ρ U PI' := fun σ F H sl sp R k =>
  h σ F H sl sp _ fun vs ws F1 U1 H1 k1 s1 r1 ⟨j, e, b1, b2, q⟩ => by
    subst e
    cases r1 with
    | cons a r =>
      cases r
      cases a
      exact ⟨j, rfl, b1, b2, k _ F1 U1 H1 _ _ k1 s1 wk_range q⟩
theorem iw_rng2 {ta : TA} (h : EA K ta ρ U fun ws U1 => ∃ i j : Int, ws = [.i i, .i j] ∧ (-(2 ^ 62) ≤ i ∧ i < 2 ^ 62 ∧ -(2 ^ 62) ≤ j ∧ j < 2 ^ 62) ∧ PI' (j - i).toNat (fun m => .int (i + (m : Nat))) U1) : IW K (iRng2 ta) ρ U PI' := fun σ F H sl sp R k =>
  h σ F H sl sp _ fun vs ws F1 U1 H1 k1 s1 r1 ⟨i, j, e, b, q⟩ => by
    subst e
    cases r1 with
    | cons a r =>
      cases r with
      | cons a2 r =>
        cases r
        cases a
        cases a2
        exact ⟨i, j, rfl, b, k _ F1 U1 H1 _ _ k1 s1 wk_range q⟩
/-- a new pair -/
theorem new_pair {F1 H1 : Hp} {U1 : UU} {T : Addr} {v u : V} {x y : PyData} (s : Sep K F1 U1 H1) (hT : H1 T = none) (a : Dp K F1 v x) (b : Dp K F1 u y) :
    ∃ F2, Kp F1 U1 H1 F2 U1 (upd H1 T (.tup [v, u])) ∧ Sep K F2 U1 (upd H1 T (.tup [v, u])) ∧ Dp K F2 (.ref T) (.tuple [x, y]) := by
  obtain ⟨s2, k2⟩ := s.fix (o := .tup [v, u]) hT
  exact ⟨_, k2, s2, .tup (SqT.of upd_same) (.cons (dp_mono k2.sub _ _ a) (.cons (dp_mono k2.sub _ _ b) .nil))⟩
abbrev enumI (xs : List PyData) : Nat → PyData := fun i => .tuple [.int (i : Nat), xs.getD i .none]
abbrev zipI (xs ys : List PyData) : Nat → PyData := fun i => .tuple [xs.getD i .none, ys.getD i .none]
theorem iw_enumT {ta : TA} (h : EA K ta ρ U fun ws U1 => ∃ xs, ws = [.t xs] ∧ PI' xs.length (enumI xs) U1) : IW K (iEnT K ta) ρ U PI' := fun σ F H sl sp R k =>
  h σ F H sl sp _ fun vs ws F1 U1 H1 k1 s1 r1 ⟨xs, e, q⟩ => by
    subst e
    cases r1 with
    | cons a r =>
      cases r
      cases a with
      | tup hq ra =>
        rename_i A vs
        have hl := dpAll_len ra
        refine ⟨A, vs, rfl, sqt_mono s1.sub hq, k _ F1 U1 H1 _ _ k1 s1 ⟨fun i H2 hi e => ?_, fun H2 e => ⟨vs, sqt_mono e hq, by omega⟩, fun i F2 U2 H2 v H3 hi e s2 y => ?_⟩ q⟩
        · have hi' : i < vs.length := by omega
          exact ⟨vs, vs[i], sqt_mono e hq, by simp [hi']⟩
        · obtain ⟨T, x, rfl, hT, rfl, hv⟩ := y
          obtain ⟨v', e1, e2⟩ := dpAll_get ra (getD_of hi)
          have e3 := hv vs (sqt_mono (e.trans s2.sub) hq)
          rw [e1] at e3
          obtain rfl := Option.some.inj e3
          exact new_pair s2 hT (Dp.int _) (dp_mono e _ _ e2)
theorem iw_enumL {ta : TA} (h : EA K ta ρ U fun ws U1 => ∃ xs, ws = [.l xs] ∧ PI' xs.length (enumI xs) U1) : IW K (iEnum K ta) ρ U PI' := fun σ F H sl sp R k =>
  h σ F H sl sp _ fun vs ws F1 U1 H1 k1 s1 r1 ⟨xs, e, q⟩ => by
    subst e
    cases r1 with
    | cons a r =>
      cases r
      cases a with
      | lst hq ra =>
        rename_i A vs
        have hl := dpAll_len ra
        refine ⟨A, vs, rfl, s1.sub.seq hq, k _ F1 U1 H1 _ _ k1 s1 ⟨fun i H2 hi e => ?_, fun H2 e => ?_, fun i F2 U2 H2 v H3 hi e s2 y => ?_⟩ q⟩
        · have hi' : i < vs.length := by omega
          exact walk_enum.goes i H2 hi' (e.seq hq)
        · rw [← hl]
          exact walk_enum.stops H2 (e.seq hq)
        · have hi' : i < vs.length := by omega
          obtain ⟨T, x, y', rfl, hT, rfl, hx, hy⟩ := walk_enum.yields i H2 v H3 hi' ((e.trans s2.sub).seq hq) y
          obtain ⟨v', e1, e2⟩ := dpAll_get ra (getD_of hi)
          have hy' : vs[i]? = some y' := hy
          rw [e1] at hy'
          obtain rfl := Option.some.inj hy'
          obtain rfl := Option.some.inj hx
          exact new_pair s2 hT (Dp.int _) (dp_mono e _ _ e2)
theorem iw_zip {ta : TA} (h : EA K ta ρ U fun ws U1 => ∃ xs ys, (ws = [.t xs, .t ys] ∨ ws = [.l xs, .l ys]) ∧ PI' (min xs.length ys.length) (zipI xs ys) U1) : IW K (iZipA K ta) ρ U PI' := fun σ F H sl sp R k =>
  h σ F H sl sp _ fun vs ws F1 U1 H1 k1 s1 r1 ⟨xs, ys, e, q⟩ => by
    rcases e with e | e <;> subst e
    · cases r1 with
      | cons a r =>
        cases r with
        | cons b r =>
          cases r
          cases a with
          | tup ha ra =>
            cases b with
            | tup hb rb =>
              rename_i A us B zs
              have l1 := dpAll_len ra
              have l2 := dpAll_len rb
              have wz := walk_zipT (K := K) (a := A) (b := B) (xs := us) (ys := zs) rfl
              refine ⟨A, B, us, zs, rfl, .inr ⟨sqt_mono s1.sub ha, sqt_mono s1.sub hb, k _ F1 U1 H1 _ _ k1 s1 ⟨fun i H2 hi e => wz.goes i H2 (by omega) ⟨sqt_mono e ha, sqt_mono e hb⟩, fun H2 e => ?_, fun i F2 U2 H2 v H3 hi e s2 y => ?_⟩ q⟩⟩
              · rw [← l1, ← l2]
                exact wz.stops H2 ⟨sqt_mono e ha, sqt_mono e hb⟩
              · have es := e.trans s2.sub
                obtain ⟨T, x, y', rfl, hT, rfl, hx, hy⟩ := wz.yields i H2 v H3 (by omega) ⟨sqt_mono es ha, sqt_mono es hb⟩ y
                obtain ⟨v1, e1, d1⟩ := dpAll_get ra (getD_of (i := i) (by omega))
                obtain ⟨v2, e2, d2⟩ := dpAll_get rb (getD_of (i := i) (by omega))
                have hx' : us[i]? = some x := hx
                have hy' : zs[i]? = some y' := hy
                rw [e1] at hx'
                rw [e2] at hy'
                obtain rfl := Option.some.inj hx'
                obtain rfl := Option.some.inj hy'
                exact new_pair s2 hT (dp_mono e _ _ d1) (dp_mono e _ _ d2)
    · cases r1 with
      | cons a r =>
        cases r with
        | cons b r =>
          cases r
          cases a with
          | lst ha ra =>
            cases b with
            | lst hb rb =>
              rename_i A us B zs
              have l1 := dpAll_len ra
              have l2 := dpAll_len rb
              have wz := walk_zip (K := K) (a := A) (b := B) (xs := us) (ys := zs) rfl
              refine ⟨A, B, us, zs, rfl, .inl ⟨s1.sub.seq ha, s1.sub.seq hb, k _ F1 U1 H1 _ _ k1 s1 ⟨fun i H2 hi e => wz.goes i H2 (by omega) ⟨e.seq ha, e.seq hb⟩, fun H2 e => ?_, fun i F2 U2 H2 v H3 hi e s2 y => ?_⟩ q⟩⟩
              · rw [← l1, ← l2]
                exact wz.stops H2 ⟨e.seq ha, e.seq hb⟩
              · have es := e.trans s2.sub
                obtain ⟨T, x, y', rfl, hT, rfl, hx, hy⟩ := wz.yields i H2 v H3 (by omega) ⟨es.seq ha, es.seq hb⟩ y
                obtain ⟨v1, e1, d1⟩ := dpAll_get ra (getD_of (i := i) (by omega))
                obtain ⟨v2, e2, d2⟩ := dpAll_get rb (getD_of (i := i) (by omega))
                have hx' : us[i]? = some x := hx
                have hy' : zs[i]? = some y' := hy
                rw [e1] at hx'
                rw [e2] at hy'
                obtain rfl := Option.some.inj hx'
                obtain rfl := Option.some.inj hy'
                exact new_pair s2 hT (dp_mono e _ _ d1) (dp_mono e _ _ d2)
end

/-! ### built-ins, by own names for their readings -/
section
variable {X : Cx}
def rLen (K : PySem.W.Frag) : List V → Hp → VK → Prop := fun vs H Q => (∃ p ys, vs = [.ref p] ∧ (SqL K H p ys ∨ SqT K H p ys) ∧ Q (.int ys.length) H) ∨ ∃ z, vs = [.str z] ∧ z.length ≤ sizeLine ∧ Q (.int z.length) H
theorem b_len : CallR X (.builtin "len") (rLen X.K) := CallR.or call_len_seq call_len_str
def rTupO (K : PySem.W.Frag) : List V → Hp → VK → Prop := fun vs H Q => ∃ p ys, vs = [.ref p] ∧ ((SqL K H p ys ∧ ∀ l, H l = none → Q (.ref l) (upd H l (.tup ys))) ∨ (SqT K H p ys ∧ Q (.ref p) H))
theorem b_tuple : CallR X (.type "tuple") (rTupO X.K) := call_tuple_of
def rIntO : List V → Hp → VK → Prop := fun vs H Q => (∃ i, vs = [.int i] ∧ Q (.int i) H) ∨ ∃ b, vs = [.bl b] ∧ Q (.int (b2i b)) H
def rAbs : List V → Hp → VK → Prop := fun vs H Q => ∃ i, vs = [.int i] ∧ Q (.int (if i < 0 then -i else i)) H
def rMx2 : List V → Hp → VK → Prop := fun vs H Q => ∃ i j, vs = [.int i, .int j] ∧ Q (.int (if j > i then j else i)) H
def rMn2 : List V → Hp → VK → Prop := fun vs H Q => ∃ i j, vs = [.int i, .int j] ∧ Q (.int (if j < i then j else i)) H
def rRepr (K : PySem.W.Frag) : List V → Hp → VK → Prop := fun vs H Q => ∃ (a : Addr) (d : PyData),
    vs = [.ref a] ∧ Dp K H (.ref a) d ∧ d.showable = true ∧ d.hasDict = false ∧ d.depth ≤ 60 ∧ d.shown.length ≤ sizeLine ∧ Q (.str d.shown) H
theorem b_repr (hg : X.A.guards = some []) (hu : X.A.units + 70 < cLine) : CallR X (.builtin "repr") (rRepr X.K) := call_reprD hg hu
end

section
variable {X : Cx}
theorem b_int : CallR X (.type "int") rIntO := fun pins s σ H xs us Q I r h => call_int1 pins s σ H xs us Q I r (h.imp id fun ⟨b, e, q⟩ => ⟨b, e, q⟩)
theorem b_abs : CallR X (.builtin "abs") rAbs := call_abs
theorem b_max2 (hc : X.calm = true) : CallR X (.builtin "max") rMx2 := call_max2 hc
theorem b_min2 (hc : X.calm = true) : CallR X (.builtin "min") rMn2 := call_min2 hc
def rLstO (K : PySem.W.Frag) : List V → Hp → VK → Prop := fun vs H Q => ∃ p ys, vs = [.ref p] ∧ (SqL K H p ys ∨ SqT K H p ys) ∧ ∀ l, H l = none → Q (.ref l) (upd H l (.lst ys))
theorem b_list : CallR X (.type "list") (rLstO X.K) := call_list_of
/-- list(range(..)): a range object made first; see HandS.Conv -/
theorem tuple_mul1 (l : Addr) (its : Array Value) (n : Nat) (dd : Option Addr) (sl : Array (Option Value)) (u : Tok) :
    Meets (Builtin.«tuple.__mul__» ⟨[.ref l, .int 1 u], []⟩) (fun _ R s => s.heap.get? l = some { cls := .type "tuple", dict := dd, data := .seq its n, slots := sl } ∧ R (.ok (.ret (Value.ref l))) s) :=
  .of_wp fun prog w A R s h => by
    obtain ⟨hp, g, d, tk, os⟩ := s
    obtain ⟨hl, h⟩ := h
    have f1 := AutoSeq1.idx_int
    have c1 : (its.isEmpty || (1 : Int) == 1) = true := by simp
    wp_walk using wpAny_loadPart' hl
    all_goals try (refine wpAny_ite_true (decide_eq_true (by exact c1)) ?_; wp_walk using wpAny_loadPart' hl)
    exact ⟨_, rfl, h⟩
def rRepA (K : PySem.W.Frag) : R2 := fun x y H Q => rRepT K x y H Q ∨ ∃ l xs, x = .ref l ∧ y = .int 1 ∧ SqT K H l xs ∧ Q (.ref l) H
theorem op_repA : OpR X (binaryOp .Mult) (rRepA X.K) := by
  intro pins s σ H x y v u Q I rx ry h
  rcases h with h | ⟨l, xs, rfl, rfl, hT, q⟩
  · exact op_repT pins s σ H x y v u Q I rx ry h
  · cases rx
    obtain ⟨t, rfl⟩ := ry
    obtain ⟨its, r, ⟨⟨cls, dd, data, sl⟩, ho, hc, n, hd⟩, hs⟩ := I.tuple hT
    obtain rfl : cls = _ := hc
    obtain rfl : data = _ := hd
    refine wpAny_binaryOp_repeat_ref (T := "tuple") (U := "int") (by decide) ⟨_, ho, rfl⟩ (fun s' => typeIs_int s' 1 t) noFill_tuple_mul F.fills_int_mul F.slot_int_rmul repeat_tuple F.slot_int_index.lookup ?_
    refine call_meets F.slot_int_rmul (typeIs_int s 1 t) F.entry_int_rmul (F.args_int_rmul_2 _ _) (int_rmul_tuple 1 t l its.toArray n dd sl) ⟨ho, rfl, ⟨_, ho, rfl⟩, ?_⟩
    refine call_meets F.slot_tuple_mul ⟨_, ho, rfl⟩ F.entry_tuple_mul (F.args_tuple_mul_2 _ _) (tuple_mul1 l its.toArray n dd sl t) ⟨ho, ?_⟩
    exact ⟨.ref l, H, I, rfl, q⟩
end

/-! the type of data -/
def tyName : PyData → String
  | .none => "NoneType"
  | .bool _ => "bool"
  | .int _ => "int"
  | .str _ => "str"
  | .list _ => "list"
  | .tuple _ => "tuple"
  | .dict _ => "dict"
theorem dp_ty {K : PySem.W.Frag} {H : Hp} : ∀ (d : PyData) (v : V), Dp K H v d → TyX K H v (.type (tyName d))
  | .none, _, h => by cases h; exact .base .non
  | .bool b, _, h => by cases h; exact .base (.bl b)
  | .int i, _, h => by cases h; exact .base (.int i)
  | .str s, _, h => by cases h; exact .base (.str s)
  | .list xs, _, h => by
    cases h with
    | lst q r =>
      rcases q with (q | ⟨o, q⟩) | q
      · exact .base (.lst q)
      · exact .base (.frz q)
      · obtain ⟨o, a, b, ho, hc, _⟩ := q
        exact .kList ho (by first | exact hc | simp_all)
  | .tuple xs, _, h => by
    cases h with
    | tup q r =>
      rcases q with (q | ⟨o, q⟩) | q
      · exact .base (.tup q)
      · exact .fTuple q
      · obtain ⟨o, a, b, ho, hc, _⟩ := q
        exact .kTuple ho (by first | exact hc | simp_all)
  | .dict _, _, h => by cases h

section
variable {K : PySem.W.Frag} {ρ : Rho} {U : UU} {P : W → UU → Prop}
theorem r2_rep {xs : List PyData} {k : Int} (hx : xs ≠ []) (h1 : 1 ≤ k) (h2 : k ≤ 1000) (hz : xs.length ≤ 1000) (q : P (.t (List.replicate k.toNat xs).flatten) U) : R2W K (rRepA K) (.d (.tuple xs)) (.d (.int k)) U P := fun v u F H sp a b Q kk => by
  cases b
  cases a with
  | tup ha ra =>
    rename_i A vs
    have hl := dpAll_len ra
    by_cases e : k = 1
    · subst e
      refine Or.inr ⟨A, vs, rfl, rfl, sqt_mono sp.sub ha, kk _ (.t xs) F U H .refl sp (.tup ha ra) ?_⟩
      have z : (List.replicate (1 : Int).toNat xs).flatten = xs := by simp [List.replicate]
      rw [z] at q
      exact q
    · refine Or.inl ⟨A, k, vs, rfl, rfl, sqt_mono sp.sub ha, fun z => hx (by rw [z] at hl; exact List.eq_nil_of_length_eq_zero hl.symm), by omega, h2, by omega, fun p hp => ?_⟩
      obtain ⟨s2, k2⟩ := sp.fix (o := .tup (List.replicate k.toNat vs).flatten) hp
      refine kk _ (.t _) _ _ _ k2 s2 (.tup (SqT.of upd_same) (dpAll_mono k2.sub _ _ ?_)) q
      have rep : ∀ m : Nat, DpAll K F (List.replicate m vs).flatten (List.replicate m xs).flatten := fun m => by
        induction m with
        | zero => exact .nil
        | succ m ih =>
          rw [List.replicate_succ, List.replicate_succ, List.flatten_cons, List.flatten_cons]
          exact rpAll_dp (by rw [List.map_append]; exact rpAll_app (dp_rpAll ra) (dp_rpAll ih))
      exact rep _
theorem rl_isi {d : PyData} {n : String} {b : Bool} (h : kitB (tyName d) n = some b) (q : P (.b b) U) : RLW K (rIsi K) [.d d, .ty n] U P := fun vs F H sp r Q k => by
  cases r with
  | cons a r =>
    cases r with
    | cons c r =>
      cases r
      rename_i x y
      obtain rfl : y = .ty n := c
      exact ⟨x, .ty n, _, _, b, rfl, .ty n, dp_ty d x (dp_mono sp.sub d x a), kit_ty h, k _ (.b b) F U H .refl sp (Dp.bl b) q⟩
theorem rl_lenT {xs : List PyData} (q : P (.i xs.length) U) : RLW K (rLen K) [.d (.tuple xs)] U P := fun vs F H sp r Q k => by
  cases r with
  | cons a r =>
    cases r
    cases a with
    | tup hq ra =>
      refine Or.inl ⟨_, _, rfl, Or.inr (sqt_mono sp.sub hq), ?_⟩
      rw [dpAll_len ra]
      exact k _ (.i _) F U H .refl sp (Dp.int _) q
theorem rl_lenL {xs : List PyData} (q : P (.i xs.length) U) : RLW K (rLen K) [.d (.list xs)] U P := fun vs F H sp r Q k => by
  cases r with
  | cons a r =>
    cases r
    cases a with
    | lst hq ra =>
      refine Or.inl ⟨_, _, rfl, Or.inl (sp.sub.seq hq), ?_⟩
      rw [dpAll_len ra]
      exact k _ (.i _) F U H .refl sp (Dp.int _) q
theorem rl_lenS {x : Str} (hz : x.length ≤ sizeLine) (q : P (.i x.length) U) : RLW K (rLen K) [.d (.str x)] U P := fun vs F H sp r Q k => by
  cases r with
  | cons a r =>
    cases r
    cases a
    exact Or.inr ⟨_, rfl, hz, k _ (.i _) F U H .refl sp (Dp.int _) q⟩
theorem rl_lenM {p : Addr} {ws : List W} (hu : U p = some ws) (q : P (.i ws.length) U) : RLW K (rLen K) [.r p] U P := fun vs F H sp r Q k => by
  cases r with
  | cons a r =>
    cases r
    rename_i v
    obtain rfl : v = .ref p := a
    obtain ⟨_, us, e, _, ru⟩ := sp.own p ws hu
    refine Or.inl ⟨p, us, rfl, Or.inl (SqL.of e), ?_⟩
    rw [rpAll_len ru]
    exact k _ (.i _) F U H .refl sp (Dp.int _) q
theorem rl_tupL {xs : List PyData} (q : P (.t xs) U) : RLW K (rTupO K) [.d (.list xs)] U P := fun vs F H sp r Q k => by
  cases r with
  | cons a r =>
    cases r
    cases a with
    | lst hq ra =>
      rename_i A us
      refine ⟨A, us, rfl, Or.inl ⟨sp.sub.seq hq, fun l hl => ?_⟩⟩
      obtain ⟨s2, k2⟩ := sp.fix (o := .tup us) hl
      exact k _ (.t xs) _ _ _ k2 s2 (.tup (SqT.of upd_same) (dpAll_mono k2.sub _ _ ra)) q
theorem rl_tupT {xs : List PyData} (q : P (.t xs) U) : RLW K (rTupO K) [.d (.tuple xs)] U P := fun vs F H sp r Q k => by
  cases r with
  | cons a r =>
    cases r
    cases a with
    | tup hq ra => exact ⟨_, _, rfl, Or.inr ⟨sqt_mono sp.sub hq, k _ (.t xs) F U H .refl sp (.tup hq ra) q⟩⟩
/-- tuple(found), found a list that may still change -/
theorem rl_tupM {p : Addr} {xs : List PyData} (hu : U p = some (xs.map W.d)) (q : P (.t xs) U) : RLW K (rTupO K) [.r p] U P := fun vs F H sp r Q k => by
  cases r with
  | cons a r =>
    cases r
    rename_i v
    obtain rfl : v = .ref p := a
    obtain ⟨_, us, e, _, ru⟩ := sp.own p _ hu
    refine ⟨p, us, rfl, Or.inl ⟨SqL.of e, fun l hl => ?_⟩⟩
    obtain ⟨s2, k2⟩ := sp.fix (o := .tup us) hl
    exact k _ (.t xs) _ _ _ k2 s2 (.tup (SqT.of upd_same) (dpAll_mono k2.sub _ _ (rpAll_dp ru))) q
theorem rl_int {i : Int} (q : P (.i i) U) : RLW K rIntO [.d (.int i)] U P := fun vs F H sp r Q k => by
  cases r with
  | cons a r => cases r; cases a; exact Or.inl ⟨i, rfl, k _ (.i i) F U H .refl sp (Dp.int _) q⟩
theorem rl_intB {b : Bool} (q : P (.i (b2i b)) U) : RLW K rIntO [.d (.bool b)] U P := fun vs F H sp r Q k => by
  cases r with
  | cons a r => cases r; cases a; exact Or.inr ⟨b, rfl, k _ (.i _) F U H .refl sp (Dp.int _) q⟩
theorem rl_abs {i : Int} (q : P (.i (if i < 0 then -i else i)) U) : RLW K rAbs [.d (.int i)] U P := fun vs F H sp r Q k => by
  cases r with
  | cons a r => cases r; cases a; exact ⟨i, rfl, k _ (.i _) F U H .refl sp (Dp.int _) q⟩
theorem rl_max2 {i j : Int} (q : P (.i (if j > i then j else i)) U) : RLW K rMx2 [.d (.int i), .d (.int j)] U P := fun vs F H sp r Q k => by
  cases r with
  | cons a r =>
    cases r with
    | cons b r => cases r; cases a; cases b; exact ⟨i, j, rfl, k _ (.i _) F U H .refl sp (Dp.int _) q⟩
theorem rl_min2 {i j : Int} (q : P (.i (if j < i then j else i)) U) : RLW K rMn2 [.d (.int i), .d (.int j)] U P := fun vs F H sp r Q k => by
  cases r with
  | cons a r =>
    cases r with
    | cons b r => cases r; cases a; cases b; exact ⟨i, j, rfl, k _ (.i _) F U H .refl sp (Dp.int _) q⟩
theorem dp_bools {F : Hp} : ∀ {vs : List V} {bs : List Bool}, DpAll K F vs (bs.map PyData.bool) → vs = bs.map V.bl
  | [], [], _ => rfl
  | _ :: _, b :: bs, .cons h t => by
    cases h
    rw [dp_bools t]
    rfl
theorem dp_ints {F : Hp} : ∀ {vs : List V} {ns : List Int}, DpAll K F vs (ns.map PyData.int) → vs = ns.map V.int
  | [], [], _ => rfl
  | _ :: _, n :: ns, .cons h t => by
    cases h
    rw [dp_ints t]
    rfl
theorem rl_all {bs : List Bool} (q : P (.b (bs.all id)) U) : RLW K (rAll K) [.d (.list (bs.map .bool))] U P := fun vs F H sp r Q k => by
  cases r with
  | cons a r =>
    cases r
    cases a with
    | lst hq ra =>
      have e := dp_bools ra
      subst e
      exact ⟨_, bs, rfl, sp.sub.seq hq, k _ (.b _) F U H .refl sp (Dp.bl _) q⟩
theorem rl_any {bs : List Bool} (q : P (.b (bs.any id)) U) : RLW K (rAny K) [.d (.list (bs.map .bool))] U P := fun vs F H sp r Q k => by
  cases r with
  | cons a r =>
    cases r
    cases a with
    | lst hq ra =>
      have e := dp_bools ra
      subst e
      exact ⟨_, bs, rfl, sp.sub.seq hq, k _ (.b _) F U H .refl sp (Dp.bl _) q⟩
theorem rl_sum {ns : List Int} (q : P (.i ns.sum) U) : RLW K (rSum K) [.d (.list (ns.map .int))] U P := fun vs F H sp r Q k => by
  cases r with
  | cons a r =>
    cases r
    cases a with
    | lst hq ra =>
      have e := dp_ints ra
      subst e
      exact ⟨_, ns, rfl, sp.sub.seq hq, k _ (.i _) F U H .refl sp (Dp.int _) q⟩
theorem rl_reprT {xs : List PyData} (hs : (PyData.tuple xs).showable = true) (hn : (PyData.tuple xs).hasDict = false) (hd : (PyData.tuple xs).depth ≤ 60) (hz : (PyData.tuple xs).shown.length ≤ sizeLine) (q : P (.s (PyData.tuple xs).shown) U) :
    RLW K (rRepr K) [.d (.tuple xs)] U P := fun vs F H sp r Q k => by
  cases r with
  | cons a r =>
    cases r
    have d0 := dp_mono sp.sub _ _ a
    cases a with
    | tup hq ra => exact ⟨_, _, rfl, d0, hs, hn, hd, hz, k _ (.s _) F U H .refl sp (Dp.str _) q⟩
theorem rl_reprL {xs : List PyData} (hs : (PyData.list xs).showable = true) (hn : (PyData.list xs).hasDict = false) (hd : (PyData.list xs).depth ≤ 60) (hz : (PyData.list xs).shown.length ≤ sizeLine) (q : P (.s (PyData.list xs).shown) U) :
    RLW K (rRepr K) [.d (.list xs)] U P := fun vs F H sp r Q k => by
  cases r with
  | cons a r =>
    cases r
    have d0 := dp_mono sp.sub _ _ a
    cases a with
    | lst hq ra => exact ⟨_, _, rfl, d0, hs, hn, hd, hz, k _ (.s _) F U H .refl sp (Dp.str _) q⟩
/-- found.append(x) -/
theorem rm_append {p : Addr} {ws : List W} {x : W} (hu : U p = some ws) (hz : ws.length < sizeLine) (q : P (.d .none) (put U p (ws ++ [x]))) : RMW K rAppend (.r p) [x] U P := fun v vs F H sp a r Q k => by
  cases r with
  | cons b r =>
    cases r
    obtain rfl : v = .ref p := a
    obtain ⟨_, us, e, _, ru⟩ := sp.own p ws hu
    have hl := rpAll_len ru
    obtain ⟨s2, k2⟩ := sp.write (vs := us ++ [_]) (ws := ws ++ [x]) hu (by rw [List.length_append, hl]; exact hz) (rpAll_app ru (.cons b .nil))
    exact ⟨p, us, _, rfl, rfl, e, by rw [hl]; exact hz, k _ (.d .none) _ _ _ k2 s2 Dp.non q⟩
theorem ty_M {p : Addr} {ws : List W} (hu : U p = some ws) : ∀ (v : V) (F H : Hp), Sep K F U H → Rp K F v (.r p) → tyV K "list" v H := fun v F H sp a => by
  obtain rfl : v = .ref p := a
  obtain ⟨_, us, e, _, _⟩ := sp.own p ws hu
  exact Or.inl ⟨rfl, _, SqL.of e⟩
/-- pot[i] = x -/
theorem set_M {p : Addr} {ws : List W} {i : Int} {j : Nat} {w : W} {N : Rho → UU → Prop} (hu : U p = some ws) (hi : ixN ws.length i = some j) (q : N ρ (put U p (ws.set j w))) :
    ∀ v vo vi F H, Sep K F U H → Rp K F v w → Rp K F vo (.r p) → Rp K F vi (.d (.int i)) → ∀ Q : Hp → Prop, (∀ F2 U3 H2, Kp F U H F2 U3 H2 → Sep K F2 U3 H2 → N ρ U3 → Q H2) → rSetL vo vi v H Q := fun v vo vi F H sp rv ro ri Q k => by
  cases ri
  obtain rfl : vo = .ref p := ro
  obtain ⟨_, us, e, hz, ru⟩ := sp.own p ws hu
  have hl := rpAll_len ru
  obtain ⟨s2, k2⟩ := sp.write (vs := us.set j v) (ws := ws.set j w) hu (by rw [List.length_set]; exact hz) (rpAll_set j ru rv)
  exact ⟨p, us, i, j, rfl, rfl, e, by rw [hl]; exact hi, k _ _ _ k2 s2 q⟩
end
end Tv

namespace Tv
open PySem PySem.Spec PyProof.Rows L2 RZ

/-- built-in names that the module leaves alone -/
structure Bi (mg : Str → Option Value) : Prop where
  isinstance : mg "isinstance" = none
  len : mg "len" = none
  all : mg "all" = none
  any : mg "any" = none
  tuple : mg "tuple" = none
  int : mg "int" = none
  bool : mg "bool" = none
  abs : mg "abs" = none
  sum : mg "sum" = none
  min : mg "min" = none
  max : mg "max" = none
  list : mg "list" = none
  range : mg "range" = none
  repr : mg "repr" = none
  enumerate : mg "enumerate" = none
  zip : mg "zip" = none
  sorted : mg "sorted" = none
  set : mg "set" = none
  str : mg "str" = none
  dict : mg "dict" = none
  reversed : mg "reversed" = none

/-- a def as callers see it -/
structure Cal (P : Program) (w : World) (K : PySem.W.Frag) (mg : Str → Option Value) (base : Heap) (st : Stmt) (x : Str) (k : Nat) (ps : List Str) (p : PT') : Prop where
  ex : ∃ f fd, Fun K x x st f fd ∧ mg x = some (.ref f) ∧ FnG P w K mg base CX0 k f fd ps (spW K p)
  bind : ∀ (kV doc pm : Value) (an : Option Addr) (cdv ct : Value) (us : List Value), us.length = ps.length →
    bindArgs (PySem.W.fnOf x x (defArgs st) (defBody st) (defScope st) .none kV doc pm an cdv ct) ⟨us, []⟩ = pure (ps.zip us)
/-- where a def stands -/
structure At (K : PySem.W.Frag) (mg : Str → Option Value) (st : Stmt) (x : Str) : Prop where
  ex : ∃ f fd, Fun K x x st f fd ∧ mg x = some (.ref f)
section
variable {Pg : Program} {w : World} {K : PySem.W.Frag} {mg : Str → Option Value} {base : Heap} {st : Stmt} {x : Str} {k : Nat} {ps N : List Str} {p : PT'}
theorem Cal.imp {p' : PT'} (C : Cal Pg w K mg base st x k ps p) (h : ∀ ws U P, p' ws U P → p ws U P) : Cal Pg w K mg base st x k ps p' := by
  obtain ⟨f, fd, a, b, c⟩ := C.ex
  exact ⟨⟨f, fd, a, b, c.imp fun vs H Q E ⟨ws, F, U, P, r, s, q, z⟩ => ⟨ws, F, U, P, r, s, h ws U P q, z⟩⟩, C.bind⟩
theorem calW (T : At K mg st x) (S : FnScope N ps (defScope st))
    (hb : ∀ (kV doc pm : Value) (an : Option Addr) (cdv ct : Value) (us : List Value), us.length = ps.length →
      bindArgs (PySem.W.fnOf x x (defArgs st) (defBody st) (defScope st) .none kV doc pm an cdv ct) ⟨us, []⟩ = pure (ps.zip us))
    (hl : ∀ ws U P, p ws U P → ws.length = ps.length)
    (go : ∀ (f : Addr) (cdv : Value) (A : Around) (outer : List Env) (s : Shared) (H : Hp) (E : XK), Room k (A.deeper (envOfC x (defScope st) s.heap.objs.size f cdv)) →
      (A.deeper (envOfC x (defScope st) s.heap.objs.size f cdv)).guards = some [] →
      ∃ t, PSs (cxOf CX0 Pg w K mg base N x (defScope st) f cdv A outer s H E).nox (defBody st) t ∧ ∀ ws U P, p ws U P → SW K t (startR N ws) U (retE P)) :
    Cal Pg w K mg base st x (k + 1) ps p := by
  obtain ⟨f, fd, a, b⟩ := T.ex
  exact ⟨⟨f, fd, a, b, okW a S hl (go f)⟩, hb⟩
end
section
variable {X : Cx} {Pg : Program} {w : World} {K : PySem.W.Frag} {mg : Str → Option Value} {base : Heap} {st : Stmt} {x : Str} {k j : Nat} {ps : List Str} {p : PT'} {e : Expr} {es : List Expr} {t tk : TA} {pp pos : Pos} {kws : List Keyword}
structure Here (X : Cx) (Pg : Program) (w : World) (K : PySem.W.Frag) (mg : Str → Option Value) (base : Heap) : Prop where
  pg : X.prog = Pg
  w : X.w = w
  k : X.K = K
  mg : X.mg = mg
  base : X.base = base
theorem pe_callC (C : Cal Pg w K mg base st x k ps p) (hr : Room j X.A) (gd : X.A.guards = some []) (hg : Gl X x) (ha : PA X (e :: es) t) (hk : k ≤ j := by decide) (hX : Here X Pg w K mg base := by exact ⟨rfl, rfl, rfl, rfl, rfl⟩) (hdb : (x == ("__debug__" : Str)) = false := by decide)
    (he : starEach (e :: es) X.env = (false, eval e X.env) :: starEach es X.env := by rfl) (hpl : (backTo pos (starEach es X.env)).any (·.1) = false := by rfl) :
    PE X (.Call (.Name x pp) (e :: es) [] pos) (tCall (spW K p) [] E0 t) := by
  obtain ⟨rfl, rfl, rfl, rfl, rfl⟩ := hX
  obtain ⟨f, fd, a, b, c⟩ := C.ex
  exact pe_callG c (hr.mono hk) gd hg b a.kp (a.binds C.bind) .nil pass0 ha hdb he hpl
theorem pe_callC0 {ks : List Str} {g : List Value → List Value → List Value} {gV : List V → List V → List V} (C : Cal Pg w K mg base st x k ps p) (hr : Room j X.A) (gd : X.A.guards = some []) (hg : Gl X x)
    (hb : ∀ f fd, Fun K x x st f fd → KBinds K fd ps ks g gV) (hkw : PK X kws tk) (hk : k ≤ j := by decide) (hX : Here X Pg w K mg base := by exact ⟨rfl, rfl, rfl, rfl, rfl⟩)
    (hall : (backToKw pos (keywordEach kws X.env)).all (·.1.isSome) = true := by rfl) (hks : (backToKw pos (keywordEach kws X.env)).filterMap (·.1) = ks := by rfl)
    (hdb : (x == ("__debug__" : Str)) = false := by decide) (hpl : (backToKw pos (keywordEach kws X.env)).any (·.1.isNone) = false := by rfl) :
    PE X (.Call (.Name x pp) [] kws pos) (tCallK (spW K p) gV E0 tNil tk) := by
  obtain ⟨rfl, rfl, rfl, rfl, rfl⟩ := hX
  obtain ⟨f, fd, a, b, c⟩ := C.ex
  exact pe_callK0 c (hr.mono hk) gd hg b a.kp (hb f fd a) pass0 hkw hall hks hdb hpl
theorem pe_callCK {ks : List Str} {g : List Value → List Value → List Value} {gV : List V → List V → List V} (C : Cal Pg w K mg base st x k ps p) (hr : Room j X.A) (gd : X.A.guards = some []) (hg : Gl X x)
    (hb : ∀ f fd, Fun K x x st f fd → KBinds K fd ps ks g gV) (ha : PA X (e :: es) t) (hkw : PK X kws tk) (hk : k ≤ j := by decide) (hX : Here X Pg w K mg base := by exact ⟨rfl, rfl, rfl, rfl, rfl⟩)
    (hall : (backToKw pos (keywordEach kws X.env)).all (·.1.isSome) = true := by rfl) (hks : (backToKw pos (keywordEach kws X.env)).filterMap (·.1) = ks := by rfl)
    (hdb : (x == ("__debug__" : Str)) = false := by decide) (he : starEach (e :: es) X.env = (false, eval e X.env) :: starEach es X.env := by rfl)
    (hpl : ((backTo pos (starEach (e :: es) X.env)).any (·.1) || (backToKw pos (keywordEach kws X.env)).any (·.1.isNone)) = false := by rfl) :
    PE X (.Call (.Name x pp) (e :: es) kws pos) (tCallK (spW K p) gV E0 t tk) := by
  obtain ⟨rfl, rfl, rfl, rfl, rfl⟩ := hX
  obtain ⟨f, fd, a, b, c⟩ := C.ex
  exact pe_callKG c (hr.mono hk) gd hg b a.kp (hb f fd a) pass0 ha hkw hall hks hdb he hpl
theorem kb_of {K : PySem.W.Frag} {ks : List Str} {g : List Value → List Value → List Value} {gV : List V → List V → List V}
    (h : ∀ (kV doc pm : Value) (an : Option Addr) (cdv ct : Value) (us ws : List Value), (g us ws).length = ps.length →
      bindArgs (PySem.W.fnOf x x (defArgs st) (defBody st) (defScope st) .none kV doc pm an cdv ct) ⟨us, ks.zip ws⟩ = pure (ps.zip (g us ws)))
    (r : ∀ {vs : List V} {us : List Value} {zs : List V} {ws : List Value}, Vals vs us → Vals zs ws → Vals (gV vs zs) (g us ws)) :
    ∀ f fd, Fun K x x st f fd → KBinds K fd ps ks g gV := fun f fd F => by
  obtain ⟨oc, od, kV, doc, pm, an, cdv, ct, osl, rfl, lk, hcd⟩ := F.ex
  exact ⟨fun s us ws _ hl => .of_eq (h kV doc pm an cdv ct us ws hl), r⟩
def rReprF : List V → Hp → VK → Prop := fun vs H Q => (∃ b, vs = [.bl b] ∧ Q (.str (if b then "True" else "False")) H) ∨ (∃ i, vs = [.int i] ∧ i.natAbs.log2 < 1920 ∧ Q (.str (toString i)) H) ∨ ∃ x, vs = [.str x] ∧ (reprText x).length ≤ sizeLine ∧ Q (.str (reprText x)) H
theorem b_reprF : CallR X (.builtin "repr") rReprF := by
  intro pins s σ H vs us Q I r h
  rcases h with ⟨b, rfl, q⟩ | ⟨i, rfl, hz, q⟩ | ⟨y, rfl, hz, q⟩
  · cases r with
    | cons a r =>
      cases r
      cases a
      exact PySem.P.repr_of_bool ⟨.str _, H, I.tok _, ⟨_, rfl⟩, q⟩
  · cases r with
    | cons a r =>
      cases r
      obtain ⟨t, rfl⟩ := a
      exact PySem.P.repr_of_int hz ⟨.str _, H, I.tok _, ⟨_, rfl⟩, q⟩
  · cases r with
    | cons a r =>
      cases r
      obtain ⟨t, rfl⟩ := a
      exact PySem.P.repr_of_str (h := ⟨.str _, H, I.tok _, ⟨_, rfl⟩, q⟩) hz
end
section
variable {K : PySem.W.Frag} {ρ : Rho} {U : UU} {P : W → UU → Prop}
theorem rl_reprB {b : Bool} (q : P (.s (if b then "True" else "False")) U) : RLW K rReprF [.d (.bool b)] U P := fun vs F H sp r Q k => by
  cases r with
  | cons a r => cases r; cases a; exact Or.inl ⟨b, rfl, k _ (.s _) F U H .refl sp (Dp.str _) q⟩
theorem rl_reprI {i : Int} (hz : i.natAbs.log2 < 1920) (q : P (.s (toString i)) U) : RLW K rReprF [.d (.int i)] U P := fun vs F H sp r Q k => by
  cases r with
  | cons a r => cases r; cases a; exact Or.inr (Or.inl ⟨i, rfl, hz, k _ (.s _) F U H .refl sp (Dp.str _) q⟩)
theorem rl_reprS {x : Str} (hz : (reprText x).length ≤ sizeLine) (q : P (.s (reprText x)) U) : RLW K rReprF [.d (.str x)] U P := fun vs F H sp r Q k => by
  cases r with
  | cons a r => cases r; cases a; exact Or.inr (Or.inr ⟨x, rfl, hz, k _ (.s _) F U H .refl sp (Dp.str _) q⟩)
def rgD (a b : Int) : List PyData := (List.range (b - a).toNat).map fun i => .int (a + (i : Nat))
theorem rpAll_ints {F : Hp} : ∀ ns : List Int, DpAll K F (ns.map V.int) (ns.map PyData.int)
  | [] => .nil
  | n :: ns => .cons (Dp.int n) (rpAll_ints ns)
theorem ev_listRg1 {te : TE} (h : EV K te ρ U fun w U1 => ∃ n, w = .i n ∧ RgOk 0 n ∧ P (.l (rgD 0 n)) U1) : EV K (tLstRg (tRg1 te)) ρ U P := fun σ F H sl sp Q k =>
  h σ F H sl sp _ fun v w F1 U1 H1 k1 s1 r1 ⟨n, e, hn, q⟩ => by
    subst e
    cases r1
    refine ⟨n, rfl, hn, fun p hp => ?_⟩
    obtain ⟨s2, k2⟩ := s1.fix (o := .lst (rgV 0 n)) hp
    refine k _ (.l (rgD 0 n)) _ _ _ (k1.trans k2) s2 (.lst (SqL.of upd_same) ?_) q
    have e1 : rgV 0 n = ((List.range (n - 0).toNat).map fun i : Nat => (0 + (i : Int))).map V.int := by simp [rgV, List.map_map, Function.comp_def]
    have e2 : rgD 0 n = ((List.range (n - 0).toNat).map fun i : Nat => (0 + (i : Int))).map PyData.int := by simp [rgD, List.map_map, Function.comp_def]
    rw [e1, e2]
    exact rpAll_ints _
end


/-! ### the rules with the written part told -/
section
variable {X : Cx} (K : PySem.W.Frag)
theorem ixT (h : X.K = K := by exact rfl) : IxR X (rIxT K) := h ▸ ix_tup
theorem ixL (h : X.K = K := by exact rfl) : IxR X (rIxL K) := h ▸ ix_list
theorem slT (h : X.K = K := by exact rfl) : SlR X (rSlA K) := h ▸ sl_tupA
theorem slL (h : X.K = K := by exact rfl) : SlR X (rSlL K) := h ▸ sl_list
theorem opIn (h : X.K = K := by exact rfl) : OpR X (compareOp .In) (rIn K false) := h ▸ op_in_seq
theorem opNotIn (h : X.K = K := by exact rfl) : OpR X (compareOp .NotIn) (rIn K true) := h ▸ op_notIn_seq
theorem opCatT (h : X.K = K := by exact rfl) : OpR X (binaryOp .Add) (rCatA K) := h ▸ op_catA
theorem opRep (h : X.K = K := by exact rfl) : OpR X (binaryOp .Mult) (rRepA K) := h ▸ op_repA
theorem opEqD (hu : X.A.units + 70 < cLine) (h : X.K = K := by exact rfl) : OpR X (compareOp .Eq) (rEqD K) := h ▸ op_eqD (by omega)
theorem opNeD (hu : X.A.units + 70 < cLine) (h : X.K = K := by exact rfl) : OpR X (compareOp .NotEq) (rNeD K) := h ▸ op_neD (by omega)
theorem bIsi (h : X.K = K := by exact rfl) : CallR X (.builtin "isinstance") (rIsi K) := h ▸ call_isi
theorem bLen (h : X.K = K := by exact rfl) : CallR X (.builtin "len") (rLen K) := h ▸ b_len
theorem bTup (h : X.K = K := by exact rfl) : CallR X (.type "tuple") (rTupO K) := h ▸ b_tuple
theorem bLst (h : X.K = K := by exact rfl) : CallR X (.type "list") (rLstO K) := h ▸ b_list
theorem bAll (hc : X.calm = true) (h : X.K = K := by exact rfl) : CallR X (.builtin "all") (rAll K) := h ▸ cr_all hc
theorem bAny (hc : X.calm = true) (h : X.K = K := by exact rfl) : CallR X (.builtin "any") (rAny K) := h ▸ cr_any hc
theorem bSum (hc : X.calm = true) (h : X.K = K := by exact rfl) : CallR X (.builtin "sum") (rSum K) := h ▸ cr_sum hc
theorem bMax (hc : X.calm = true) (h : X.K = K := by exact rfl) : CallR X (.builtin "max") (rMax K) := h ▸ cr_max hc
theorem bRepr (hg : X.A.guards = some []) (hu : X.A.units + 70 < cLine) (h : X.K = K := by exact rfl) : CallR X (.builtin "repr") (rRepr K) := h ▸ b_repr hg hu
theorem pgT {es : List Expr} {k : Nat} {pos : Pos} {t : TGs} {n : Nat} (hc : X.calm = true) (h : PGs X es t) (hn : (assignEach es X.env).length = n := by rfl) (hst : (assignEach es X.env).findIdx? (·.1) = none := by rfl)
    (hK : X.K = K := by exact rfl) : PG X (.Tuple es k pos) (gTup K n t) := hK ▸ pg_tup hc h hn hst
theorem piT {tg l : Expr} {tl : TE} (hl : PE X l tl) (hK : X.K = K := by exact rfl) : PI X tg l (iTup K tl) := hK ▸ pi_tup hl
theorem piL {tg l : Expr} {tl : TE} (hl : PE X l tl) (hK : X.K = K := by exact rfl) : PI X tg l (iList K tl) := hK ▸ pi_list hl
theorem piEnT {e : Expr} {ta : TA} {p pos tpos : Pos} {elts : List Expr} {kk : Nat} (hg : Gl X "enumerate") (hm : X.mg "enumerate" = none) (ha : PA X [e] ta)
    (hs : starEach [e] X.env = [(false, eval e X.env)] := by rfl) (hK : X.K = K := by exact rfl) : PI X (.Tuple elts kk tpos) (.Call (.Name "enumerate" p) [e] [] pos) (iEnT K ta) := hK ▸ pi_enumT hg hm ha hs
theorem piEnL {e : Expr} {ta : TA} {p pos tpos : Pos} {elts : List Expr} {kk : Nat} (hg : Gl X "enumerate") (hm : X.mg "enumerate" = none) (ha : PA X [e] ta)
    (hs : starEach [e] X.env = [(false, eval e X.env)] := by rfl) (hK : X.K = K := by exact rfl) : PI X (.Tuple elts kk tpos) (.Call (.Name "enumerate" p) [e] [] pos) (iEnum K ta) := hK ▸ pi_enum hg hm ha hs
theorem piZ {e e2 : Expr} {ta : TA} {p pos tpos : Pos} {elts : List Expr} {kk : Nat} (hg : Gl X "zip") (hm : X.mg "zip" = none) (ha : PA X [e, e2] ta)
    (hs : starEach [e, e2] X.env = (false, eval e X.env) :: starEach [e2] X.env := by rfl) (hpl : (backTo pos (starEach [e2] X.env)).any (·.1) = false := by rfl) (hK : X.K = K := by exact rfl) :
    PI X (.Tuple elts kk tpos) (.Call (.Name "zip" p) [e, e2] [] pos) (iZipA K ta) := hK ▸ pi_zipA hg hm ha hs hpl
end

section
variable {X : Cx}
theorem pgU (K : PySem.W.Frag) {es : List Expr} {k : Nat} {pos : Pos} {t : TGs} {n : Nat} (hc : X.calm = true) (h : PGs X es t) (hn : (assignEach es X.env).length = n := by rfl) (hst : (assignEach es X.env).findIdx? (·.1) = none := by rfl)
    (hK : X.K = K := by exact rfl) : PG X (.Tuple es k pos) (gUnl K n t) := hK ▸ pg_unl hc h hn hst
def rIsB : R2 := fun x y H Q => ∃ a b, x = .bl a ∧ y = .bl b ∧ Q (.bl (decide (a = b))) H
def rIsntB : R2 := fun x y H Q => ∃ a b, x = .bl a ∧ y = .bl b ∧ Q (.bl (!decide (a = b))) H
theorem opIsB : OpR X (compareOp .Is) rIsB := op_is_bl
theorem opIsntB : OpR X (compareOp .IsNot) rIsntB := op_isnot_bl
end
section
variable {K : PySem.W.Frag} {ρ : Rho} {U : UU} {P : W → UU → Prop} {gs : TGs} {N : Rho → UU → Prop}
theorem r2_isB {a b : Bool} (q : P (.b (decide (a = b))) U) : R2W K rIsB (.d (.bool a)) (.d (.bool b)) U P := fun v u F H sp x y Q k => by
  cases x; cases y
  exact ⟨a, b, rfl, rfl, k _ (.b _) F U H .refl sp (Dp.bl _) q⟩
theorem r2_isntB {a b : Bool} (q : P (.b (!decide (a = b))) U) : R2W K rIsntB (.d (.bool a)) (.d (.bool b)) U P := fun v u F H sp x y Q k => by
  cases x; cases y
  exact ⟨a, b, rfl, rfl, k _ (.b _) F U H .refl sp (Dp.bl _) q⟩
theorem gw_unl {n : Nat} {xs : List PyData} (hn : xs.length = n) (h : GsW K gs (xs.map W.d) ρ U N) : GW K (gUnl K n gs) (.l xs) ρ U N := fun σ F H v sl sp r Q k => by
  cases r with
  | lst q ra => exact ⟨_, _, rfl, sp.sub.seq q, (dpAll_len ra).trans hn, h σ F H _ sl sp (dp_rpAll ra) Q k⟩
end

/-! ### the type of data, asked -/
theorem isi_ii {i : Int} : kitB (tyName (.int i)) "int" = some true := by show kitB "int" "int" = _; decide +kernel
theorem isi_ib {i : Int} : kitB (tyName (.int i)) "bool" = some false := by show kitB "int" "bool" = _; decide +kernel
theorem isi_bi {b : Bool} : kitB (tyName (.bool b)) "int" = some true := by show kitB "bool" "int" = _; decide +kernel
theorem isi_bb {b : Bool} : kitB (tyName (.bool b)) "bool" = some true := by show kitB "bool" "bool" = _; decide +kernel
theorem isi_tt {xs : List PyData} : kitB (tyName (.tuple xs)) "tuple" = some true := by show kitB "tuple" "tuple" = _; decide +kernel
theorem isi_ss {s : Str} : kitB (tyName (.str s)) "str" = some true := by show kitB "str" "str" = _; decide +kernel
/-! ### stepping -/
end Tv

local macro_rules | `(tactic| walk_at "tv1") => `(tactic| first
  | ((with_reducible show Tv.EV _ (L2.tVar _) _ _ _); refine Tv.ev_var rfl ?_)
  | with_reducible refine Tv.ev_int ?_ | with_reducible refine Tv.ev_str ?_ | with_reducible refine Tv.ev_bl ?_ | with_reducible refine Tv.ev_non ?_ | with_reducible refine Tv.ev_ty ?_
  | with_reducible refine Tv.ev_op ?_ | with_reducible refine Tv.ev_un ?_ | with_reducible refine Tv.ev_nil ?_ | with_reducible refine Tv.ev_cons ?_
  | with_reducible refine Tv.ev_call ?_ | with_reducible refine Tv.ev_cb ?_ | with_reducible refine Tv.ev_chain ?_
  | with_reducible refine Tv.ev_andV ?_ | with_reducible refine Tv.ev_orV ?_ | with_reducible refine Tv.ev_notV ?_ | with_reducible refine Tv.ev_if ?_
  | with_reducible refine Tv.et_test ?_ | with_reducible refine Tv.et_b ?_ | with_reducible refine Tv.et_and ?_ | with_reducible refine Tv.et_or ?_ | with_reducible refine Tv.et_not ?_ | with_reducible refine Tv.et_yes ?_
  | with_reducible refine Tv.ev_tup ?_ | with_reducible refine Tv.ev_slT ?_ | with_reducible refine Tv.ev_slL ?_
  | with_reducible refine Tv.eo_none ?_ | with_reducible refine Tv.eo_some ?_
  | with_reducible refine Tv.sw_seq ?_ | with_reducible refine Tv.sw_asg ?_ | with_reducible refine Tv.sw_ret ?_ | with_reducible refine Tv.sw_drop ?_ | with_reducible refine Tv.sw_if ?_
  | with_reducible refine Tv.sw_next ?_ | with_reducible refine Tv.sw_par ?_ | with_reducible refine Tv.sw_break ?_ | with_reducible refine Tv.sw_cont ?_
  | with_reducible refine Tv.gw_name ?_ | with_reducible refine Tv.gsw_nil ?_ | with_reducible refine Tv.gsw_cons ?_
  | with_reducible refine Tv.r2_int ?_ | with_reducible refine Tv.r2_intB ?_ | with_reducible refine Tv.r2_eqI ?_ | with_reducible refine Tv.r2_neI ?_ | with_reducible refine Tv.r2_eqS ?_ | with_reducible refine Tv.r2_neS ?_ | with_reducible refine Tv.r2_isB ?_ | with_reducible refine Tv.r2_isntB ?_
  | with_reducible refine Tv.rl_lenT ?_ | with_reducible refine Tv.rl_lenL ?_ | with_reducible refine Tv.rl_tupL ?_ | with_reducible refine Tv.rl_tupT ?_ | with_reducible refine Tv.rl_int ?_ | with_reducible refine Tv.rl_intB ?_
  | with_reducible refine Tv.rl_abs ?_ | with_reducible refine Tv.rl_isi Tv.isi_ii ?_ | with_reducible refine Tv.rl_isi Tv.isi_ib ?_ | with_reducible refine Tv.rl_isi Tv.isi_tt ?_ | with_reducible refine Tv.rl_isi Tv.isi_bi ?_ | with_reducible refine Tv.rl_isi Tv.isi_bb ?_ | with_reducible refine Tv.rl_isi Tv.isi_ss ?_
  | with_reducible refine Tv.rl_max2 ?_ | with_reducible refine Tv.rl_min2 ?_ | with_reducible refine Tv.rl_reprB ?_)
local macro_rules | `(tactic| walk_at "tv") => `(tactic| repeat' walk_at "tv1")

namespace Tv
open PySem PySem.Spec PyProof.Rows L2 RZ

/-! ### data small enough to be shown -/
structure Ok (n k : Nat) (d : PyData) : Prop where
  sh : d.showable = true
  nd : d.hasDict = false
  lf : d.leavesShort 100 = true
  bk : d.bulk ≤ n
  dp : d.depth ≤ k
theorem ok_int {i : Int} (h : i.natAbs < 10 ^ 90) : Ok 0 0 (.int i) := by
  have hl : (PyData.shown (.int i)).length ≤ 100 := by
    show (Str.ofString (toString i)).length ≤ 100
    by_cases h0 : 0 ≤ i
    · exact Nat.le_trans (PyProof.Rows.toString_length_le h0 (k := 90) (by decide) (by omega)) (by decide)
    · have z := PyProof.Rows.len_text_negI (n := i) (by omega)
      have z2 := PyProof.Rows.toString_length_le (v := 0 - i) (by omega) (k := 90) (by decide) (by omega)
      omega
  refine ⟨?_, rfl, ?_, Nat.le_refl _, Nat.le_refl _⟩
  · show decide (i.natAbs.log2 < 1920) = true
    refine decide_eq_true ?_
    have : i.natAbs < 2 ^ 300 := Nat.lt_trans h (by decide)
    exact Nat.lt_trans (PySem.Flt.log2_lt_of (by decide) this) (by decide)
  · show decide _ = true
    exact decide_eq_true hl
theorem ok_bool {b : Bool} : Ok 0 0 (.bool b) := ⟨rfl, rfl, rfl, Nat.le_refl _, Nat.le_refl _⟩
theorem ok_none : Ok 0 0 .none := ⟨rfl, rfl, rfl, Nat.le_refl _, Nat.le_refl _⟩
theorem ok_str {s : Str} {n : Nat} (h : s.cps.size ≤ n) (hc : (s.cps.toList.all fun c => decide (c < 16 ^ 8)) = true) : Ok n 0 (.str s) := ⟨rfl, rfl, hc, h, Nat.le_refl _⟩
theorem Ok.mono {n m k j : Nat} {d : PyData} (h : Ok n k d) (hn : n ≤ m) (hk : k ≤ j) : Ok m j d := ⟨h.sh, h.nd, h.lf, Nat.le_trans h.bk hn, Nat.le_trans h.dp hk⟩
structure OkAll (n k : Nat) (xs : List PyData) : Prop where
  sh : PyData.showableAll xs = true
  nd : PyData.hasDictAll xs = false
  lf : PyData.leavesShortAll 100 xs = true
  bk : PyData.bulkAll xs ≤ n
  dp : PyData.depthAll xs ≤ k
theorem okAll_nil {k : Nat} : OkAll 0 k [] := ⟨rfl, rfl, rfl, Nat.le_refl _, Nat.zero_le _⟩
theorem okAll_cons {n m k : Nat} {x : PyData} {xs : List PyData} (a : Ok n k x) (b : OkAll m k xs) : OkAll (n + 1 + m) k (x :: xs) := by
  refine ⟨?_, ?_, ?_, ?_, ?_⟩
  · rw [PyData.showableAll, a.sh, b.sh]; rfl
  · rw [PyData.hasDictAll, a.nd, b.nd]; rfl
  · rw [PyData.leavesShortAll, a.lf, b.lf]; rfl
  · rw [PyData.bulkAll]; have := a.bk; have := b.bk; omega
  · rw [PyData.depthAll]; have := a.dp; have := b.dp; omega
theorem OkAll.mono {n m k j : Nat} {xs : List PyData} (h : OkAll n k xs) (hn : n ≤ m) (hk : k ≤ j) : OkAll m j xs := ⟨h.sh, h.nd, h.lf, Nat.le_trans h.bk hn, Nat.le_trans h.dp hk⟩
theorem okAll_of {n k : Nat} : ∀ {xs : List PyData}, (∀ x ∈ xs, Ok n k x) → OkAll ((n + 1) * xs.length) k xs
  | [], _ => okAll_nil
  | x :: xs, h => by
    have q := okAll_cons (h x (List.mem_cons_self ..)) (okAll_of fun y hy => h y (List.mem_cons_of_mem _ hy))
    refine q.mono ?_ (Nat.le_refl _)
    rw [List.length_cons, Nat.mul_succ]
    omega
theorem ok_tup {n k : Nat} {xs : List PyData} (h : OkAll n k xs) : Ok n (k + 1) (.tuple xs) := by
  refine ⟨?_, ?_, ?_, ?_, ?_⟩
  · simpa [PyData.showable] using h.sh
  · simpa [PyData.hasDict] using h.nd
  · simpa [PyData.leavesShort] using h.lf
  · simpa [PyData.bulk] using h.bk
  · have := h.dp
    simp only [PyData.depth]
    omega
theorem ok_lst {n k : Nat} {xs : List PyData} (h : OkAll n k xs) : Ok n (k + 1) (.list xs) := by
  refine ⟨?_, ?_, ?_, ?_, ?_⟩
  · simpa [PyData.showable] using h.sh
  · simpa [PyData.hasDict] using h.nd
  · simpa [PyData.leavesShort] using h.lf
  · simpa [PyData.bulk] using h.bk
  · have := h.dp
    simp only [PyData.depth]
    omega
theorem ok_len {n k : Nat} {d : PyData} (h : Ok n k d) (hn : n ≤ 20000) : d.shown.length ≤ sizeLine := by
  have z := PyData.shown_le_bulk 100 (by decide) d h.lf
  have := h.bk
  have e : (100 + 2) * d.bulk ≤ 102 * 20000 := Nat.mul_le_mul (by decide) (by omega)
  rw [sizeLine_eq]
  omega
section
variable {K : PySem.W.Frag} {ρ : Rho} {U : UU} {P : W → UU → Prop}
theorem rl_reprTok {xs : List PyData} {n k : Nat} (h : Ok n k (.tuple xs)) (hn : n ≤ 20000) (hk : k ≤ 60) (q : P (.s (PyData.tuple xs).shown) U) : RLW K (rRepr K) [.d (.tuple xs)] U P :=
  rl_reprT h.sh h.nd (Nat.le_trans h.dp hk) (ok_len h hn) q
theorem rl_reprLok {xs : List PyData} {n k : Nat} (h : Ok n k (.list xs)) (hn : n ≤ 20000) (hk : k ≤ 60) (q : P (.s (PyData.list xs).shown) U) : RLW K (rRepr K) [.d (.list xs)] U P :=
  rl_reprL h.sh h.nd (Nat.le_trans h.dp hk) (ok_len h hn) q
end

/-! ### calls by keywords -/
def pick {α : Type} (m k : Nat) (pos : List Nat) (us ws : List α) : List α := if us.length = m ∧ ws.length = k then us ++ pos.filterMap (fun i => ws[i]?) else []
theorem vals_pos {zs : List V} {ws : List Value} (r : Vals zs ws) : ∀ pos : List Nat, Vals (pos.filterMap (fun i => zs[i]?)) (pos.filterMap (fun i => ws[i]?))
  | [] => .nil
  | i :: pos => by
    rw [List.filterMap_cons, List.filterMap_cons]
    cases q : zs[i]? with
    | none => rw [r.none_of q]; exact vals_pos r pos
    | some z =>
      obtain ⟨u, hu, ru⟩ := r.get q
      rw [hu]
      exact .cons ru (vals_pos r pos)
theorem vals_pick {m k : Nat} {pos : List Nat} {vs zs : List V} {us ws : List Value} (a : Vals vs us) (b : Vals zs ws) : Vals (pick m k pos vs zs) (pick m k pos us ws) := by
  unfold pick
  rw [a.length, b.length]
  split
  · exact a.append (vals_pos b pos)
  · exact .nil
theorem rp_pos {K : PySem.W.Frag} {F : Hp} {zs : List V} {ws : List W} (r : RpAll K F zs ws) : ∀ pos : List Nat, RpAll K F (pos.filterMap (fun i => zs[i]?)) (pos.filterMap (fun i => ws[i]?))
  | [] => .nil
  | i :: pos => by
    rw [List.filterMap_cons, List.filterMap_cons]
    cases q : ws[i]? with
    | none =>
      have e : zs[i]? = none := by
        rw [List.getElem?_eq_none_iff] at q ⊢
        rw [rpAll_len r]
        exact q
      rw [e]
      exact rp_pos r pos
    | some z =>
      obtain ⟨v, hv, rv⟩ := rpAll_get r q
      rw [hv]
      exact .cons rv (rp_pos r pos)
theorem rp_pick {K : PySem.W.Frag} {F : Hp} {m k : Nat} {pos : List Nat} {vs us : List V} {ws zs : List W} (a : RpAll K F vs ws) (b : RpAll K F us zs) : RpAll K F (pick m k pos vs us) (pick m k pos ws zs) := by
  unfold pick
  rw [rpAll_len a, rpAll_len b]
  split
  · exact rpAll_app a (rp_pos b pos)
  · exact .nil
theorem ev_callP {K : PySem.W.Frag} {ρ : Rho} {U : UU} {P : W → UU → Prop} {p : PT'} {E : XK} {m k : Nat} {pos : List Nat} {t tk : TA} (h : EA K t ρ U fun ws U1 => EA K tk ρ U1 fun zs U2 => p (pick m k pos ws zs) U2 P) :
    EV K (tCallK (spW K p) (pick m k pos) E t tk) ρ U P := ev_callK (gW := pick m k pos) rp_pick h

/-! ### comprehensions that change nothing -/
section
variable {K : PySem.W.Frag} {ρ : Rho} {U : UU} {P : W → UU → Prop} {te : TE} {tt : TT} {g : TG} {wi : TI} {vs : List Nat}
/-- the turn at one item -/
def Turn1 (K : PySem.W.Frag) (g : TG) (tt : TT) (te : TE) (ρ : Rho) (U : UU) (x y : PyData) : Prop :=
  GW K g (.d x) ρ U fun ρ2 U2 => ET K tt ρ2 U2 fun b U3 => b = true ∧ EV K te ρ2 U3 fun w U4 => w = .d y ∧ U4 = U
theorem gw_mono {w : W} {N N' : Rho → UU → Prop} (h : ∀ r u, N r u → N' r u) (a : GW K g w ρ U N) : GW K g w ρ U N' := fun σ F H v sl sp r Q k =>
  a σ F H v sl sp r Q fun σ2 F2 H2 ρ2 U2 k2 sl2 s2 n => k σ2 F2 H2 ρ2 U2 k2 sl2 s2 (h _ _ n)
theorem et_mono {N N' : Bool → UU → Prop} (h : ∀ r u, N r u → N' r u) (a : ET K tt ρ U N) : ET K tt ρ U N' := fun σ F H sl sp Q k =>
  a σ F H sl sp Q fun b F2 U2 H2 k2 s2 n => k b F2 U2 H2 k2 s2 (h _ _ n)
theorem ev_mono {N N' : W → UU → Prop} (h : ∀ r u, N r u → N' r u) (a : EV K te ρ U N) : EV K te ρ U N' := fun σ F H sl sp Q k =>
  a σ F H sl sp Q fun v w F2 U2 H2 k2 s2 r n => k v w F2 U2 H2 k2 s2 r (h _ _ n)
theorem ea_mono {ta : TA} {N N' : List W → UU → Prop} (h : ∀ r u, N r u → N' r u) (a : EA K ta ρ U N) : EA K ta ρ U N' := fun σ F H sl sp Q k =>
  a σ F H sl sp Q fun v w F2 U2 H2 k2 s2 r n => k v w F2 U2 H2 k2 s2 r (h _ _ n)
theorem sw_mono {E E' : EndW} {ts : TS} (h : SW K ts ρ U E) (a : ∀ r u, E.nx r u → E'.nx r u) (b : ∀ w u, E.rt w u → E'.rt w u) (c : ∀ r u, E.bk r u → E'.bk r u) (d : ∀ r u, E.ct r u → E'.ct r u) (f : ∀ r c x u, E.er r c x u → False := by exact fun _ _ _ _ z => z) : SW K ts ρ U E' := fun σ F H D sl sp e =>
  h σ F H D sl sp ⟨fun σ F2 H2 ρ U2 k sl s q => e.nx σ F2 H2 ρ U2 k sl s (a _ _ q), fun v w F2 H2 U2 k s r q => e.rt v w F2 H2 U2 k s r (b _ _ q), fun σ F2 H2 ρ U2 k sl s q => e.bk σ F2 H2 ρ U2 k sl s (c _ _ q), fun σ F2 H2 ρ U2 k sl s q => e.ct σ F2 H2 ρ U2 k sl s (d _ _ q), fun _ _ _ _ _ _ _ _ _ _ _ _ _ _ z => (f _ _ _ _ z).elim⟩
theorem sw_mono' {nx : Rho → UU → Prop} {E' : EndW} {ts : TS} (h : SW K ts ρ U { nx := nx }) (a : ∀ r u, nx r u → E'.nx r u) : SW K ts ρ U E' :=
  sw_mono h a (fun _ _ z => z.elim) (fun _ _ z => z.elim) fun _ _ z => z.elim
theorem ev_lcF (hg : Own g vs) (h : IW K wi ρ U fun n item U1 => ∃ f : Nat → PyData, n < sizeLine ∧ (∀ i, i < n → Turn1 K g tt te (wipeR ρ vs) U1 (item i) (f i)) ∧ P (.l ((List.range n).map f)) U1) : EV K (tLc wi g tt te vs) ρ U P := by
  refine ev_lc hg ?_
  intro σ F H sl sp R k
  refine h σ F H sl sp R fun J F2 U2 H2 n item k2 s2 wk ⟨f, hn, ht, q⟩ => k J F2 U2 H2 n item k2 s2 wk ?_
  refine ⟨fun i acc U => acc = (List.range i).map f ∧ U = U2, ⟨rfl, rfl⟩, fun i acc U hi _ ⟨e1, e2⟩ => ?_, fun acc U _ ⟨e1, e2⟩ => ?_⟩
  · subst e2
    refine gw_mono (fun r u z => ?_) (ht i hi)
    refine et_mono (fun b u z => ?_) z
    obtain ⟨rfl, z⟩ := z
    refine ⟨fun _ => ev_mono (fun w u z => ?_) z, fun z => nomatch z⟩
    obtain ⟨rfl, rfl⟩ := z
    exact ⟨f i, rfl, by rw [e1, List.length_map, List.length_range]; omega, by rw [e1, List.range_succ, List.map_append]; rfl, rfl⟩
  · rw [e1, e2]
    exact q
theorem range_getD {α : Type} {xs : List α} {h : α → PyData} {f : α → PyData} {F : Nat → PyData} (hf : ∀ i x, xs[i]? = some x → F i = f x) : (List.range xs.length).map F = xs.map f := by
  apply List.ext_getElem
  · simp
  · intro i h1 h2
    have hi : i < xs.length := by simpa using h1
    simp [hf i xs[i] (by simp [hi])]
def atF {α : Type} (xs : List α) (f : Nat → α → PyData) : Nat → PyData := fun i => match xs[i]? with | some x => f i x | none => .none
theorem atF_map {α : Type} {xs : List α} {f : α → PyData} : (List.range xs.length).map (atF xs fun _ x => f x) = xs.map f :=
  range_getD (h := f) fun i x e => by simp [atF, e]
theorem getD_at {α : Type} {xs : List α} {h : α → PyData} {i : Nat} {x : α} (e : xs[i]? = some x) : (xs.map h).getD i .none = h x := by
  simp [List.getD_eq_getElem?_getD, e]
theorem ev_lcT {α : Type} {xs : List α} {h f : α → PyData} {tl : TE} (hg : Own g vs) (a : EV K tl ρ U fun w U1 => w = .t (xs.map h) ∧ xs.length < sizeLine ∧
    (∀ (i : Nat) x, xs[i]? = some x → Turn1 K g tt te (wipeR ρ vs) U1 (h x) (f x)) ∧ P (.l (xs.map f)) U1) : EV K (tLc (iTup K tl) g tt te vs) ρ U P := by
  refine ev_lcF hg (iw_tup (ev_mono (fun w u z => ?_) a))
  obtain ⟨rfl, hn, ht, q⟩ := z
  refine ⟨_, rfl, atF xs fun _ x => f x, by rw [List.length_map]; exact hn, fun i hi => ?_, by rw [List.length_map, atF_map]; exact q⟩
  have hi' : i < xs.length := by simpa using hi
  have e : xs[i]? = some xs[i] := by simp [hi']
  show Turn1 K g tt te _ _ ((xs.map h).getD i .none) _
  rw [getD_at e, show atF xs (fun _ x => f x) i = f xs[i] by simp [atF, e]]
  exact ht i _ e
theorem ev_lcL {α : Type} {xs : List α} {h f : α → PyData} {tl : TE} (hg : Own g vs) (a : EV K tl ρ U fun w U1 => w = .l (xs.map h) ∧ xs.length < sizeLine ∧
    (∀ (i : Nat) x, xs[i]? = some x → Turn1 K g tt te (wipeR ρ vs) U1 (h x) (f x)) ∧ P (.l (xs.map f)) U1) : EV K (tLc (iList K tl) g tt te vs) ρ U P := by
  refine ev_lcF hg (iw_list (ev_mono (fun w u z => ?_) a))
  obtain ⟨rfl, hn, ht, q⟩ := z
  refine ⟨_, rfl, atF xs fun _ x => f x, by rw [List.length_map]; exact hn, fun i hi => ?_, by rw [List.length_map, atF_map]; exact q⟩
  have hi' : i < xs.length := by simpa using hi
  have e : xs[i]? = some xs[i] := by simp [hi']
  show Turn1 K g tt te _ _ ((xs.map h).getD i .none) _
  rw [getD_at e, show atF xs (fun _ x => f x) i = f xs[i] by simp [atF, e]]
  exact ht i _ e
/-- over enumerate of a tuple -/
theorem ev_lcE {α : Type} {xs : List α} {h : α → PyData} {f : Nat → α → PyData} {ta : TA} (hg : Own g vs) (a : EA K ta ρ U fun ws U1 => ws = [.t (xs.map h)] ∧ xs.length < sizeLine ∧
    (∀ (i : Nat) x, xs[i]? = some x → Turn1 K g tt te (wipeR ρ vs) U1 (.tuple [.int (i : Nat), h x]) (f i x)) ∧ P (.l (xs.mapIdx f)) U1) : EV K (tLc (iEnT K ta) g tt te vs) ρ U P := by
  refine ev_lcF hg (iw_enumT (ea_mono (fun w u z => ?_) a))
  obtain ⟨rfl, hn, ht, q⟩ := z
  refine ⟨_, rfl, atF xs f, by rw [List.length_map]; exact hn, fun i hi => ?_, ?_⟩
  · have hi' : i < xs.length := by simpa using hi
    have e : xs[i]? = some xs[i] := by simp [hi']
    show Turn1 K g tt te _ _ (.tuple [.int (i : Nat), (xs.map h).getD i .none]) _
    rw [getD_at e, show atF xs f i = f i xs[i] by simp [atF, e]]
    exact ht i _ e
  · rw [List.length_map]
    have e : (List.range xs.length).map (atF xs f) = xs.mapIdx f := by
      apply List.ext_getElem
      · simp
      · intro i h1 h2
        have hi : i < xs.length := by simpa using h1
        simp [atF, hi]
    rw [e]
    exact q
end

section
variable {K : PySem.W.Frag} {ρ : Rho} {U : UU} {P : W → UU → Prop} {te : TE} {tt : TT} {g : TG} {vs : List Nat}
/-- over zip of two tuples or two lists of data -/
theorem ev_lcZ {α β : Type} {xs : List α} {ys : List β} {h : α → PyData} {k : β → PyData} {f : α → β → PyData} {ta : TA} (hg : Own g vs) (a : EA K ta ρ U fun ws U1 => (ws = [.t (xs.map h), .t (ys.map k)] ∨ ws = [.l (xs.map h), .l (ys.map k)]) ∧ xs.length < sizeLine ∧
    (∀ (i : Nat) x y, xs[i]? = some x → ys[i]? = some y → Turn1 K g tt te (wipeR ρ vs) U1 (.tuple [h x, k y]) (f x y)) ∧ P (.l (List.zipWith f xs ys)) U1) : EV K (tLc (iZipA K ta) g tt te vs) ρ U P := by
  refine ev_lcF hg (iw_zip (ea_mono (fun w u z => ?_) a))
  obtain ⟨e, hn, ht, q⟩ := z
  refine ⟨xs.map h, ys.map k, e, fun i => match xs[i]?, ys[i]? with | some x, some y => f x y | _, _ => .none, ?_, fun i hi => ?_, ?_⟩
  · rw [List.length_map, List.length_map]
    omega
  · have h1 : i < xs.length := by simp at hi; omega
    have h2 : i < ys.length := by simp at hi; omega
    have e1 : xs[i]? = some xs[i] := by simp [h1]
    have e2 : ys[i]? = some ys[i] := by simp [h2]
    show Turn1 K g tt te _ _ (.tuple [(xs.map h).getD i .none, (ys.map k).getD i .none]) (match xs[i]?, ys[i]? with | some x, some y => f x y | _, _ => .none)
    rw [getD_at e1, getD_at e2, e1, e2]
    exact ht i _ _ e1 e2
  · have e3 : (List.range (min (xs.map h).length (ys.map k).length)).map (fun i => match xs[i]?, ys[i]? with | some x, some y => f x y | _, _ => PyData.none) = List.zipWith f xs ys := by
      apply List.ext_getElem
      · simp
      · intro i h1 h2
        have h3 : i < xs.length := by simp at h1; omega
        have h4 : i < ys.length := by simp at h1; omega
        simp [h3, h4]
    rw [e3]
    exact q
end

/-! targets are monotone -/
theorem gnil_mono : ∀ (v : List V) (σ : L2.St) (H : Hp) (Q R : L2.St → Hp → Prop), (∀ s h, Q s h → R s h) → gNil v σ H Q → gNil v σ H R := fun v σ H Q R k q => ⟨q.1, k _ _ q.2⟩
theorem gcons_mono {g : TG} {gs : TGs} (a : ∀ (v : V) (σ : L2.St) (H : Hp) (Q R : L2.St → Hp → Prop), (∀ s h, Q s h → R s h) → g v σ H Q → g v σ H R)
    (b : ∀ (v : List V) (σ : L2.St) (H : Hp) (Q R : L2.St → Hp → Prop), (∀ s h, Q s h → R s h) → gs v σ H Q → gs v σ H R) :
    ∀ (v : List V) (σ : L2.St) (H : Hp) (Q R : L2.St → Hp → Prop), (∀ s h, Q s h → R s h) → gCons g gs v σ H Q → gCons g gs v σ H R := fun v σ H Q R k q => by
  obtain ⟨x, r, e, q⟩ := q
  exact ⟨x, r, e, a _ _ _ _ _ (fun s h z => b _ _ _ _ _ k z) q⟩
theorem gtup_mono {K : PySem.W.Frag} {n : Nat} {gs : TGs} (b : ∀ (v : List V) (σ : L2.St) (H : Hp) (Q R : L2.St → Hp → Prop), (∀ s h, Q s h → R s h) → gs v σ H Q → gs v σ H R) :
    ∀ (v : V) (σ : L2.St) (H : Hp) (Q R : L2.St → Hp → Prop), (∀ s h, Q s h → R s h) → gTup K n gs v σ H Q → gTup K n gs v σ H R := fun v σ H Q R k q => by
  obtain ⟨a, xs, e, h1, h2, q⟩ := q
  exact ⟨a, xs, e, h1, h2, b _ _ _ _ _ k q⟩

/-! ### more of data -/
theorem bools_map {α : Type} {xs : List α} {f : α → Bool} : xs.map (fun x => PyData.bool (f x)) = (xs.map f).map PyData.bool := by rw [List.map_map]; rfl
theorem map_mapIdx {α β : Type} {f : Nat → α → β} {g : β → PyData} {xs : List α} : (xs.mapIdx f).map g = xs.mapIdx fun i x => g (f i x) := by
  apply List.ext_getElem
  · simp
  · intro i h1 h2
    simp
theorem all_map_id {α : Type} {f : α → Bool} : ∀ {xs : List α}, (xs.map f).all id = xs.all f
  | [] => rfl
  | x :: xs => by rw [List.map_cons, List.all_cons, List.all_cons, all_map_id]; rfl
theorem any_map_id {α : Type} {f : α → Bool} : ∀ {xs : List α}, (xs.map f).any id = xs.any f
  | [] => rfl
  | x :: xs => by rw [List.map_cons, List.any_cons, List.any_cons, any_map_id]; rfl
theorem rl_allM {K : PySem.W.Frag} {U : UU} {P : W → UU → Prop} {α : Type} {xs : List α} {f : α → Bool} (q : P (.b (xs.all f)) U) : RLW K (rAll K) [.d (.list (xs.map fun x => .bool (f x)))] U P := by
  rw [bools_map]
  refine rl_all ?_
  rw [all_map_id]
  exact q
theorem rl_anyM {K : PySem.W.Frag} {U : UU} {P : W → UU → Prop} {α : Type} {xs : List α} {f : α → Bool} (q : P (.b (xs.any f)) U) : RLW K (rAny K) [.d (.list (xs.map fun x => .bool (f x)))] U P := by
  rw [bools_map]
  refine rl_any ?_
  rw [any_map_id]
  exact q
section
variable {K : PySem.W.Frag} {ρ : Rho} {U : UU} {P : W → UU → Prop} {gs : TGs} {N : Rho → UU → Prop}
theorem gw_pair {x y : PyData} (h : GsW K gs [.d x, .d y] ρ U N) : GW K (gTup K 2 gs) (.d (.tuple [x, y])) ρ U N := gw_tup rfl h
theorem cutD_drop {xs : List PyData} {k : Nat} : cutD xs (some (k : Int)) none = xs.drop k := by
  unfold cutD
  rw [show HT.sIx xs.length 0 (some (k : Int)) = min k xs.length from HT.sIx_nat xs.length 0 k, HT.sIx_none]
  by_cases h : k ≤ xs.length
  · rw [Nat.min_eq_left h]
    exact List.take_of_length_le (by rw [List.length_drop]; exact Nat.le_refl _)
  · have h' : xs.length ≤ k := by omega
    rw [Nat.min_eq_right h', List.drop_eq_nil_of_le (Nat.le_refl _), List.drop_eq_nil_of_le h']
    simp
theorem cutD_take {xs : List PyData} {k : Nat} : cutD xs none (some (k : Int)) = xs.take k := by
  unfold cutD
  rw [show HT.sIx xs.length xs.length (some (k : Int)) = min k xs.length from HT.sIx_nat xs.length xs.length k, HT.sIx_none, List.drop_zero, Nat.sub_zero]
  by_cases h : k ≤ xs.length
  · rw [Nat.min_eq_left h]
  · rw [Nat.min_eq_right (by omega), List.take_of_length_le (Nat.le_refl _), List.take_of_length_le (by omega)]
theorem atI_at {xs : List PyData} {i : Nat} {x : PyData} (h : xs[i]? = some x) : atI xs (i : Int) = some x := atI_nat h
end

/-! ### the pot -/
structure PtS (a b c : Int) (n : Nat) : Prop where
  a0 : 0 ≤ a
  b0 : 0 ≤ b
  b1 : b < 2305843009213693921
  c0 : 0 ≤ c
  c1 : c ≤ n
def Pt (U : UU) (p : Addr) (n : Nat) : Prop := ∃ a b c, U p = some (.l [.i a, .i b, .i c]) ∧ PtS a b c n
theorem Pt.mono {U : UU} {p : Addr} {n m : Nat} (h : Pt U p n) (e : n ≤ m) : Pt U p m := by
  obtain ⟨a, b, c, h1, h2⟩ := h
  exact ⟨a, b, c, h1, { h2 with c1 := by have := h2.c1; omega }⟩
/-- all but p as it was -/
def Els (p : Addr) (U U' : UU) : Prop := ∀ q, q ≠ p → U' q = U q
theorem Els.refl {p : Addr} {U : UU} : Els p U U := fun _ _ => rfl
theorem Els.trans {p : Addr} {U V T : UU} (a : Els p U V) (b : Els p V T) : Els p U T := fun q h => (b q h).trans (a q h)
theorem els_put {p : Addr} {U : UU} {ws : List W} : Els p U (put U p ws) := fun _ h => put_ne h
theorem Pt.els {p q : Addr} {U V : UU} {n : Nat} (h : Pt U q n) (e : Els p U V) (ne : q ≠ p) : Pt V q n := by
  obtain ⟨a, b, c, h1, h2⟩ := h
  exact ⟨a, b, c, (e q ne).trans h1, h2⟩
/-- a take: from n takes at most to n + 1 -/
def pTake : PT' := fun ws U P => ∃ (p : Addr) (n : Nat) (m : Int), ws = [.r p, .i m] ∧ Pt U p n ∧ n < 100000 ∧ 0 < m ∧ m < 1000000 ∧ ∀ d U', 0 ≤ d → d < m → Pt U' p (n + 1) → Els p U U' → P (.i d) U'
def pOf : PT' := fun ws U P => ∃ (p : Addr) (n : Nat) (xs : List PyData), ws = [.r p, .l xs] ∧ Pt U p n ∧ n < 100000 ∧ xs ≠ [] ∧ xs.length < 1000000 ∧ ∀ x U', x ∈ xs → Pt U' p (n + 1) → Els p U U' → P (.d x) U'
/-- n is what may be read of the script: any numbers -/
def pPot : PT' := fun ws U P => ∃ (ns : List Int) (i : Nat), ws = [.l (ns.map .int), .i (i : Int)] ∧ i < 100 ∧ ∀ p U', U p = none → Pt U' p 0 → Els p U U' → P (.r p) U'
def pCells (m : Nat) : PT' := fun ws U P => ∃ (ns : List Int), ws = [.l (ns.map .int), .i (m : Int)] ∧ ∀ k : Nat, 1 ≤ k → (k ≤ m ∨ k = 1) → P (.l (rgD 0 k)) U
def pLaw : PT' := fun ws U P => ∃ ns : List Int, ws = [.l (ns.map .int)] ∧ ns.length ≤ 63 ∧ ∀ U', P (.b true) U'

/-! numbers of a take -/
theorem intBits_le {i : Int} {n : Nat} (h : i.natAbs < 2 ^ n) (hn : 0 < n) : Builtin.Int.intBits i ≤ n := by
  have a := PySem.Flt.log2_lt_of hn h
  unfold Builtin.Int.intBits
  split <;> omega
theorem powG {i : Int} {n k : Nat} (h : i.natAbs < 2 ^ n) (hn : 0 < n) (hz : n * k ≤ 2 ^ 27) : CPowG i (k : Int) := by
  refine ⟨by omega, ?_⟩
  have a := intBits_le h hn
  have b : Builtin.Int.intBits i * k ≤ n * k := Nat.mul_le_mul_right k a
  have c : ((Builtin.Int.intBits i * k : Nat) : Int) ≤ ((2 ^ 27 : Nat) : Int) := Int.ofNat_le.mpr (Nat.le_trans b hz)
  rw [Int.natCast_mul] at c
  exact c
theorem fmod_rng {a m : Int} (h : 0 < m) : 0 ≤ a.fmod m ∧ a.fmod m < m := by
  rw [Int.fmod_eq_emod_of_nonneg a (by omega)]
  exact ⟨Int.emod_nonneg a (by omega), Int.emod_lt_of_pos a h⟩
theorem fdiv_rng {a m : Int} (h0 : 0 ≤ a) (h : 0 < m) : 0 ≤ a.fdiv m ∧ a.fdiv m ≤ a := by
  rw [Int.fdiv_eq_ediv_of_nonneg a (by omega)]
  exact ⟨Int.ediv_nonneg h0 (by omega), Int.ediv_le_self m h0⟩
theorem prime_at {xs : List Int} {k : Int} (h : 0 ≤ k) (hk : k < xs.length) : ∃ p, p ∈ xs ∧ atI (xs.map PyData.int) k = some (.int p) := by
  obtain ⟨j, rfl⟩ := Int.eq_ofNat_of_zero_le h
  have hj : j < xs.length := by omega
  exact ⟨xs[j], List.getElem_mem hj, atI_at (by simp [hj])⟩

/-! ### what the top has written -/
section
variable {Pg : Program} {w : World} {K : PySem.W.Frag} {h : Heap} {mg : Str → Option Value} {base : Heap} {st : Stmt} {x : Str} {f a : Addr}
theorem at_mk {od an : Option Addr} {sl : Array (Option Value)} {oc kV dc pm cd ct : Value} (X : K.In h) (G : h.Ns mainGlobals mg) (a1 : PySem.W.nsIn K mainGlobals x = some (some (.ref f)))
    (l1 : K.lookup f = some ⟨oc, od, .func (PySem.W.fnOf x x (defArgs st) (defBody st) (defScope st) .none kV dc pm an cd ct), sl⟩) (c1 : PySem.W.codeIn K cd x = true) (k1 : PySem.W.keepIn K (.ref f) = true) : At K mg st x :=
  ⟨f, _, fun_mk (st := st) l1 c1 k1, PySem.W.mg_of X G a1⟩
theorem fun_inj {q : Str} {fd fd' : FuncData} (A : Fun K x q st f fd) (B : Fun K x q st f fd') : fd = fd' := by
  obtain ⟨_, _, _, _, _, _, _, _, _, rfl, l1, _⟩ := A.ex
  obtain ⟨_, _, _, _, _, _, _, _, _, rfl, l2, _⟩ := B.ex
  rw [l1] at l2
  injection l2 with l2
  injection l2 with _ _ l2 _
  injection l2
/-- the law's own end -/
theorem law_mk {k : Nat} {y : Str} {p : PT'} {fa : Addr} (T : At K mg st x) (hfa : mg x = some (.ref fa)) (L : ∀ base : Heap, Cal Pg w K mg base st x k [y] p) (B0 : Heap) :
    ∃ fd : FuncData, (∀ (s : Shared) (u : Value), BindsTo s fd ⟨[u], []⟩ [(y, u)]) ∧ ∀ base : Heap, K.In base → base.Ns mainGlobals mg → FnG Pg w K mg base CX0 k fa fd [y] (spW K p) := by
  obtain ⟨f, fd, F, hm⟩ := T.ex
  have e : f = fa := by
    rw [hfa] at hm
    cases hm
    rfl
  subst e
  refine ⟨fd, fun s u => ?_, fun base _ _ => ?_⟩
  · obtain ⟨oc, od, kV, doc, pm, an, cdv, ct, osl, rfl, lk, hcd⟩ := F.ex
    exact .of_eq ((L B0).bind kV doc pm an cdv ct [u] rfl)
  · obtain ⟨f', fd', F', hm', G⟩ := (L base).ex
    have e : f' = f := by
      rw [hm] at hm'
      cases hm'
      rfl
    subst e
    rw [fun_inj F F']
    exact G
/-- a module's tuple of texts -/
theorem kc_strs {X : Str} {xs : List Str} {dd : Option Addr} {its : Array Value} {n : Nat} {sl : Array (Option Value)} (I : K.In h) (G : h.Ns mainGlobals mg) (a1 : PySem.W.nsIn K mainGlobals X = some (some (.ref a)))
    (l1 : K.lookup a = some ⟨.type "tuple", dd, .seq its n, sl⟩) (v : Vals (xs.map V.str) its.toList) (hz : its.size ≤ sizeLine) : ∃ a, mg X = some (.ref a) ∧ Dp K (fun _ => none) (.ref a) (.tuple (xs.map .str)) := by
  have strs0 : ∀ ys : List Str, DpAll K (fun _ => none) (ys.map V.str) (ys.map PyData.str) := fun ys => by
    induction ys with
    | nil => exact .nil
    | cons y ys ih => exact .cons (Dp.str y) ih
  exact ⟨a, PySem.W.mg_of I G a1, .tup (xs := xs.map V.str) (.inr ⟨_, its, n, l1, rfl, rfl, hz, v⟩) (strs0 xs)⟩
theorem law_sp {K : PySem.W.Frag} {H : Hp} {a : Addr} {ns : List Int} (hl : ns.length ≤ 63) (hS : SqL K H a (ns.map V.int)) : spW K pLaw [.ref a] H (fun v _ => v = .bl true) fun _ _ _ => False := by
  refine ⟨[.l (ns.map .int)], H, fun _ => none, fun w _ => w = .b true, .cons (.lst hS (rpAll_ints ns)) .nil, ⟨Same.refl H, fun _ _ z => nomatch z⟩, ⟨ns, rfl, hl, fun _ => rfl⟩, ?_⟩
  rintro v w F2 U2 H2 _ _ r rfl
  cases r
  rfl
end
end Tv

namespace Tv
open PySem PySem.Spec PyProof.Rows L2 RZ

/-! ### set(t), t a tuple of tuples of ints -/
abbrev set0 (w : World) : Obj := { cls := .type "set", dict := none, data := .set #[] 0 (.fresh 0 0 (!w.params.followText "set-order")) }
abbrev Made (P : Program) (w : World) (ks : List (Addr × List Int)) (s : Shared) (h' : Heap) : Prop :=
  (∃ L es ep t, SetTR P w h' s.heap.objs.size L es ep t ∧ Got ks ks.length L) ∧ ∀ b o, s.heap.get? b = some o → h'.get? b = some o
theorem call_setT {P : Program} {w : World} {A : Around} {E : Value → Shared → Prop} {s : Shared} {l : Addr} {its : Array Value} (ks : List (Addr × List Int)) {Q : Value → Shared → Prop} (hh : A.handled = none) (hl : s.heap.IsTuple l its)
    (hit : its.toList = ks.map fun p => Value.ref p.1) (hk : ∀ p ∈ ks, IsT P w s.heap p.2 p.1) (hfew : ks.length < 64) (hu : A.units + 3 < cLine)
    (h : ∀ (h' : Heap) (tk : Nat), Made P w ks s h' → Q (.ref s.heap.objs.size) { s with heap := h', toks := tk }) :
    wpAny (model P w) A (call (.type "set") [.ref l]) Q E s := by
  have q1 : its.size = ks.length := by have q := congrArg List.length hit; simpa using q
  have c1 := F.called_set.made; have c2 := F.called_set.sub
  obtain ⟨_, _, c3⟩ := F.called_set.mro
  refine wpAny_call (codeAny_of_tree (wpAny_pure ⟨Code.quiet_builtin _ (by decide +kernel), codeAny_builtin F.entry_type_call ?_⟩))
  rw [Around.under_plain (weight_type_call_type "set" [.ref l] []) rfl]
  have c4 := F.called_set.notType; have c5 := F.called_set.canCreate; have c6 := F.typeCall_set_1 (.ref l)
  repeat (any_goals (first | assumption | wp_step))
  refine codeAny_mono (code_set_led1 (.ref l) (E := E) (Q₁ := fun x s1 => x = .ref s.heap.objs.size ∧ s1 = { s with heap := s.heap.push (set0 w) }) ⟨rfl, rfl⟩) fun r s1 hr => ?_
  rcases r with _ | fl
  · exact hr
  cases fl with
  | ret x =>
    obtain ⟨rfl, rfl⟩ := hr
    have hS : (s.heap.push (set0 w)).get? s.heap.objs.size = some (set0 w) := Heap.get?_push_size _ rfl
    have hz : (s.heap.push (set0 w)).objs.size = s.heap.objs.size + 1 := Heap.size_push ..
    have c7 := F.called_set.init.lookup; have c8 := F.called_set.init.bind (.ref s.heap.objs.size)
    repeat (any_goals (first | assumption | wp_step))
    refine codeAny_mono (codeAny_call_builtin (R := wants (fun r s2 => r = Value.none ∧ ∃ h' tk, s2 = { s with heap := h', toks := tk } ∧ Made P w ks s h') E) F.called_set.init.plain F.entry_set_init (check_set_init_1 ⟨_, hS, rfl⟩ ?_)) fun r2 s2 hr2 => ?_
    · obtain ⟨⟨_, d0, _, sl0⟩, hol, rfl, nl, rfl⟩ := hl
      have hol' := Heap.get?_push_of_some (h := s.heap) (set0 w) hol
      have hlt : l < s.heap.objs.size := Heap.lt_size hol
      have hT : (s.heap.push (set0 w)).IsTuple l its := ⟨_, hol', rfl, nl, rfl⟩
      have c9 := F.sub_tuple_set; have c10 := F.sub_tuple_frozenset
      have c11 : (Value.type "tuple" == Value.type "dict") = false := by decide
      unfold Builtin.«set.__init__» noKeywords Builtin.Frozenset.updateFrom
      generalize hPI : pyIter = PI
      wp_walk
      subst hPI
      refine wpAny_pyIter_tuple hT (wpAny_bind (wpAny_runValue ?_))
      have n1 : l ≠ (s.heap.push (set0 w)).objs.size := by rw [Heap.size_push]; exact Nat.ne_of_lt (Nat.lt_succ_of_lt hlt)
      have n2 : s.heap.objs.size ∉ [(s.heap.push (set0 w)).objs.size, l] := fun z => by
        rcases List.mem_cons.mp z with z | z
        · rw [Heap.size_push] at z; exact absurd z (Nat.ne_of_lt (Nat.lt_succ_self _))
        · exact absurd (List.mem_singleton.mp z) (Nat.ne_of_gt hlt)
      have n3 : ∀ b, s.heap.objs.size ≤ b → s.heap.get? b = none := fun b hb => by
        cases q : s.heap.get? b with
        | none => rfl
        | some o => exact absurd (Nat.lt_of_lt_of_le (Heap.lt_size q) hb) (Nat.lt_irrefl _)
      have W := (Walks.tuple (prog := P) (w := w) (A := A.in1.in1.in1) (by simp [hh]) (s.heap.push (set0 w)).objs.size l n1 its).toS
      refine set_update_tups W s.heap.objs.size n2 ks q1 hfew (fun i v hv => ?_) s.heap hk (n3 _ (Nat.le_refl _)) (fun b hb => n3 b (by rw [List.mem_singleton.mp hb, Heap.size_push]; exact Nat.le_succ _)) (by simp; omega) (its.size - 0) 0 _ (by omega) (Nat.zero_le _)
        ⟨⟨_, Heap.get?_push_size _ rfl, rfl, rfl⟩, hT.push _⟩ (fun b o e => Heap.get?_push_of_some _ (Heap.get?_push_of_some _ e)) ⟨[], #[], 0, _, setTR_fresh (Heap.get?_push_of_some _ hS), Got.zero ks⟩ ?_
      · have q : its.toList[i]? = some v := by rw [Array.getElem?_toList]; exact hv
        rw [hit, List.getElem?_map, Option.map_eq_some_iff] at q
        obtain ⟨p, a, b⟩ := q
        exact ⟨p, a, b.symm⟩
      · rintro ⟨h', g2, d', tk', os'⟩ L es ep t hm hS' g' hkp
        obtain rfl : g2 = s.gens := hm.gens
        obtain rfl : d' = s.drawn := hm.drawn
        obtain rfl : os' = s.os := hm.os
        rw [q1] at g'
        exact wpAny_pure (wpAny_pure ⟨rfl, h', tk', rfl, ⟨L, es, ep, t, hS', g'⟩, hkp⟩)
    · rcases r2 with _ | fl2
      · exact hr2
      cases fl2 with
      | ret r =>
        obtain ⟨rfl, h', tk, rfl, m⟩ := hr2
        repeat (any_goals (first | assumption | wp_step))
        exact h _ _ m
      | _ => exact hr2.elim
  | _ => exact hr.elim
end Tv

namespace Tv
open PySem PySem.Spec PyProof.Rows L2 RZ

/-! ### list + list, however they are laid -/
theorem list_addG (l : Addr) (its : Array Value) (n : Nat) (dd : Option Addr) (sl : Array (Option Value)) (b : Addr) (its2 : Array Value) (n2 : Nat) (dd2 : Option Addr) (sl2 : Array (Option Value)) (hz : its.size + its2.size ≤ sizeLine) :
    Meets (Builtin.«list.__add__» ⟨[.ref l, .ref b], []⟩) (fun _ R s => s.heap.get? l = some { cls := .type "list", dict := dd, data := .seq its n, slots := sl } ∧ s.heap.get? b = some { cls := .type "list", dict := dd2, data := .seq its2 n2, slots := sl2 } ∧
      R (.ok (.ret (.ref s.heap.objs.size))) { s with heap := s.heap.push { cls := .type "list", data := .seq (its ++ its2) } }) :=
  .of_wp fun prog w A R s h => by
    obtain ⟨hp, g, d, tk, os⟩ := s
    obtain ⟨hl, hb, h⟩ := h
    have f1 := AutoSeq1.sub_list_list
    wp_walk using wpAny_loadPart' hl, wpAny_loadPart' hb
    exact ⟨_, rfl, h⟩
def rCatL (K : PySem.W.Frag) : R2 := fun x y H Q => ∃ l b xs zs, x = .ref l ∧ y = .ref b ∧ SqL K H l xs ∧ SqL K H b zs ∧ xs.length + zs.length ≤ sizeLine ∧ ∀ p, H p = none → Q (.ref p) (upd H p (.lst (xs ++ zs)))
theorem op_catL {X : Cx} : OpR X (binaryOp .Add) (rCatL X.K) := by
  intro pins s σ H x y v u Q I rx ry h
  obtain ⟨l, b, xs, zs, rfl, rfl, hH, hB, hz, q⟩ := h
  cases rx
  cases ry
  obtain ⟨its, r, ⟨⟨_, dd, _, sl⟩, n, ho, rfl, _, rfl⟩, _⟩ := I.list hH
  obtain ⟨its2, r2, ⟨⟨_, dd2, _, sl2⟩, n2, ho2, rfl, _, rfl⟩, _⟩ := I.list hB
  have l1 := r.length
  have l2 := r2.length
  refine concat_meets ⟨_, ho, rfl⟩ ⟨_, ho2, rfl⟩ noFill_list_add seq_list_add F.slot_list_add F.entry_list_add (F.args_list_add_2 _ _) (list_addG l its.toArray n dd sl b its2.toArray n2 dd2 sl2 (by rw [List.size_toArray, List.size_toArray]; omega)) ⟨ho, ho2, ?_⟩
  have ea : its.toArray ++ its2.toArray = (its ++ its2).toArray := by simp
  rw [ea]
  exact ⟨.ref _, _, I.lnew (t' := s.toks) (r.append r2) (by rw [List.length_append]; omega), rfl, q _ I.fresh⟩
section
variable {K : PySem.W.Frag} {ρ : Rho} {U : UU} {P : W → UU → Prop}
theorem r2_catL {xs ys : List PyData} (hz : xs.length + ys.length ≤ sizeLine) (q : P (.l (xs ++ ys)) U) : R2W K (rCatL K) (.d (.list xs)) (.d (.list ys)) U P := fun v u F H sp a b Q k => by
  cases a with
  | lst ha ra =>
    cases b with
    | lst hb rb =>
      rename_i A vs B us
      have l1 := dpAll_len ra
      have l2 := dpAll_len rb
      refine ⟨_, _, vs, us, rfl, rfl, sp.sub.seq ha, sp.sub.seq hb, by omega, fun p hp => ?_⟩
      obtain ⟨s2, k2⟩ := sp.fix (o := .lst (vs ++ us)) hp
      refine k _ (.l (xs ++ ys)) _ _ _ k2 s2 (.lst (SqL.of upd_same) ?_) q
      refine dpAll_mono k2.sub _ _ (rpAll_dp ?_)
      rw [List.map_append]
      exact rpAll_app (dp_rpAll ra) (dp_rpAll rb)
end

/-! ### sorted(set(ts)) -/
def rSetT (K : PySem.W.Frag) (P : Program) (w : World) : List V → Hp → VK → Prop := fun xs H Q => ∃ (l : Addr) (ks : List (Addr × List Int)), xs = [V.ref l] ∧ SqT K H l (ks.map fun p => V.ref p.1) ∧ (∀ p ∈ ks, SqT K H p.1 (p.2.map V.int)) ∧ ks.length < 64 ∧
  ∀ a L, H a = none → (∀ p ∈ L, p ∈ ks) → (∀ p ∈ ks, p.2 ∈ L.map (·.2)) → Q (.ref a) (upd H a (SetTO P w a L))
theorem cr_setT {X : Cx} (hc : X.calm = true) (hu : X.A.units + 64 < cLine) : CallR X (.type "set") (rSetT X.K X.prog X.w) := by
  intro pins s σ H xs us Q I r h
  obtain ⟨l, ks, rfl, hl, hk, hf, q⟩ := h
  rw [Vals.ref1 r]
  obtain ⟨its, rv, pl, hz⟩ := I.tuple hl
  have hn : H s.heap.objs.size = none := I.hok.fresh (Nat.le_refl _)
  refine call_setT (P := X.prog) (w := X.w) ks (I.ok.hd hc) (its := its.toArray) pl (by simpa using refs_of_vals rv) (fun p hp => I.isT (hk p hp)) hf (by omega) fun h' tk ⟨⟨L, es, ep, t, R, g⟩, k⟩ => ?_
  refine ⟨.ref s.heap.objs.size, upd H s.heap.objs.size (SetTO X.prog X.w s.heap.objs.size L), I.laid (t' := tk) k (Nat.le_refl _) (setTO_new R.t0), rfl, q _ L hn (fun p hp => ?_) fun p hp => ?_⟩
  · exact List.mem_of_mem_take (g.sub p hp)
  · exact g.all p (by rw [List.take_length]; exact hp)
section
variable {X : Cx} (K : PySem.W.Frag) (P : Program) (w : World)
theorem bSetT (hc : X.calm = true) (hu : X.A.units + 70 < cLine) (h : X.K = K := by exact rfl) (hP : X.prog = P := by exact rfl) (hw : X.w = w := by exact rfl) : CallR X (.type "set") (rSetT K P w) := h ▸ hP ▸ hw ▸ cr_setT hc (by omega)
theorem bSetL (hc : X.calm = true) (hu : X.A.units + 70 < cLine) (h : X.K = K := by exact rfl) (hP : X.prog = P := by exact rfl) (hw : X.w = w := by exact rfl) : CallR X (.type "set") (rSetOfT K P w) := h ▸ hP ▸ hw ▸ cr_setOfT hc (by omega)
theorem bSorted (hc : X.calm = true) (h : X.K = K := by exact rfl) (hP : X.prog = P := by exact rfl) (hw : X.w = w := by exact rfl) : CallR X (.builtin "sorted") (rSortedT K P w) := h ▸ hP ▸ hw ▸ cr_sortedT hc
theorem opCatL (h : X.K = K := by exact rfl) : OpR X (binaryOp .Add) (rCatL K) := h ▸ op_catL
end
abbrev tup (ns : List Int) : PyData := .tuple (ns.map .int)
/-- sorted, each once -/
structure Srt (B : Int) (ts L : List (List Int)) : Prop where
  nd : L.Nodup
  mem : ∀ t, t ∈ L ↔ t ∈ ts
  pw : L.Pairwise fun q r => TS.code B q ≤ TS.code B r
  few : L.length < 64
section
variable {K : PySem.W.Frag} {ρ : Rho} {U : UU} {Pt' : W → UU → Prop} {Pg : Program} {w : World} {te : TE} {F : Hp}
theorem tups_ks : ∀ {ts : List (List Int)} {vs : List V}, DpAll K F vs (ts.map tup) → ∃ ks : List (Addr × List Int), vs = ks.map (fun p => V.ref p.1) ∧ ks.map (·.2) = ts ∧ ∀ p ∈ ks, SqT K F p.1 (p.2.map V.int)
  | [], vs, h => by cases h; exact ⟨[], rfl, rfl, fun _ z => nomatch z⟩
  | t :: ts, vs, h => by
    rw [List.map_cons] at h
    cases h with
    | cons x r =>
      cases x with
      | tup ha ra =>
        obtain ⟨ks, rfl, e2, e3⟩ := tups_ks r
        rename_i A xs
        obtain rfl := dp_ints ra
        refine ⟨(A, t) :: ks, rfl, by rw [List.map_cons, e2], fun p hp => ?_⟩
        rcases List.mem_cons.mp hp with rfl | hp
        · exact ha
        · exact e3 p hp
theorem tups_dp : ∀ {ks : List (Addr × List Int)}, (∀ p ∈ ks, SqT K F p.1 (p.2.map V.int)) → DpAll K F (ks.map fun p => V.ref p.1) ((ks.map (·.2)).map tup)
  | [], _ => .nil
  | p :: ks, h => .cons (.tup (h p (List.mem_cons_self ..)) (rpAll_ints _)) (tups_dp fun q hq => h q (List.mem_cons_of_mem _ hq))
/-- what follows the making of the set -/
theorem sort_after {F1 H1 : Hp} {U1 : UU} {B : Int} {d : Nat} {ts : List (List Int)} {ks : List (Addr × List Int)} {Q : VK} (s1 : Sep K F1 U1 H1) (hd : 1 ≤ d) (hB : ∀ t ∈ ts, t.length = d ∧ TS.Bd B t) (e2 : ks.map (·.2) = ts) (e3 : ∀ p ∈ ks, SqT K F1 p.1 (p.2.map V.int))
    (q : ∀ L, Srt B ts L → Pt' (.l (L.map tup)) U1) (k : ∀ v w F2 U2 H2, Kp F1 U1 H1 F2 U2 H2 → Sep K F2 U2 H2 → Rp K F2 v w → Pt' w U2 → Q v H2)
    {a : Addr} {L : List (Addr × List Int)} (ha : H1 a = none) (m1 : ∀ p ∈ L, p ∈ ks) (m2 : ∀ p ∈ ks, p.2 ∈ L.map (·.2)) : rSortedT K Pg w [.ref a] (upd H1 a (SetTO Pg w a L)) Q := by
  obtain ⟨s2, k2⟩ := s1.fix (o := SetTO Pg w a L) ha
  have t2 : ∀ p ∈ L, SqT K (upd F1 a (SetTO Pg w a L)) p.1 (p.2.map V.int) := fun p hp => sqt_mono k2.sub (e3 p (m1 p hp))
  have inT : ∀ p ∈ L, p.2 ∈ ts := fun p hp => by
    rw [← e2]
    exact List.mem_map_of_mem (f := (·.2)) (m1 p hp)
  refine ⟨a, L, d, B, rfl, upd_same, fun p hp => sqt_mono s2.sub (t2 p hp), hd, fun p hp => hB _ (inT p hp), fun L' p pm nd hz pw hp => ?_⟩
  obtain ⟨s3, k3⟩ := s2.fix (o := .lst (L'.map fun q => V.ref q.1)) hp
  refine k _ (.l ((L'.map (·.2)).map tup)) _ _ _ (k2.trans k3) s3 (.lst (SqL.of upd_same) (dpAll_mono k3.sub _ _ (tups_dp fun p hp => t2 p (pm.mem_iff.mp hp)))) (q _ ⟨nd, fun t => ⟨fun h => ?_, fun h => ?_⟩, by rw [List.pairwise_map]; exact pw, by rw [List.length_map]; exact hz⟩)
  · obtain ⟨p, hp, rfl⟩ := List.mem_map.mp h
    exact inT p (pm.mem_iff.mp hp)
  · rw [← e2] at h
    obtain ⟨p, hp, rfl⟩ := List.mem_map.mp h
    exact (pm.map (·.2)).mem_iff.mpr (m2 p hp)
theorem ev_sortT (h : EV K te ρ U fun x U1 => ∃ (ts : List (List Int)) (d : Nat) (B : Int), x = .t (ts.map tup) ∧ ts.length < 64 ∧ 1 ≤ d ∧ (∀ t ∈ ts, t.length = d ∧ TS.Bd B t) ∧ ∀ L, Srt B ts L → Pt' (.l (L.map tup)) U1) :
    EV K (tCB (rSortedT K Pg w) (tCons (tCB (rSetT K Pg w) (tCons te tNil)) tNil)) ρ U Pt' := fun σ F H sl sp Q k =>
  h σ F H sl sp _ fun v x F1 U1 H1 k1 s1 r1 ⟨ts, d, B, e, hz, hd, hB, q⟩ => by
    subst e
    cases r1 with
    | tup ha ra =>
      rename_i A vs
      obtain ⟨ks, rfl, e2, e3⟩ := tups_ks ra
      have hl : ks.length < 64 := by
        have e4 := congrArg List.length e2
        rw [List.length_map] at e4
        omega
      exact ⟨_, ks, rfl, sqt_mono s1.sub ha, fun p hp => sqt_mono s1.sub (e3 p hp), hl, fun a L hn m1 m2 => sort_after s1 hd hB e2 e3 q (fun v w F2 U2 H2 k2 s2 r2 q2 => k v w F2 U2 H2 (k1.trans k2) s2 r2 q2) hn m1 m2⟩
theorem ev_sortL (h : EV K te ρ U fun x U1 => ∃ (ts : List (List Int)) (d : Nat) (B : Int), x = .l (ts.map tup) ∧ ts.length < 64 ∧ 1 ≤ d ∧ (∀ t ∈ ts, t.length = d ∧ TS.Bd B t) ∧ ∀ L, Srt B ts L → Pt' (.l (L.map tup)) U1) :
    EV K (tCB (rSortedT K Pg w) (tCons (tCB (rSetOfT K Pg w) (tCons te tNil)) tNil)) ρ U Pt' := fun σ F H sl sp Q k =>
  h σ F H sl sp _ fun v x F1 U1 H1 k1 s1 r1 ⟨ts, d, B, e, hz, hd, hB, q⟩ => by
    subst e
    cases r1 with
    | lst ha ra =>
      rename_i A vs
      obtain ⟨ks, rfl, e2, e3⟩ := tups_ks ra
      have hl : ks.length < 64 := by
        have e4 := congrArg List.length e2
        rw [List.length_map] at e4
        omega
      exact ⟨_, ks, rfl, s1.sub.seq ha, fun p hp => sqt_mono s1.sub (e3 p hp), hl, fun a L hn m1 m2 => sort_after s1 hd hB e2 e3 q (fun v w F2 U2 H2 k2 s2 r2 q2 => k v w F2 U2 H2 (k1.trans k2) s2 r2 q2) hn m1 m2⟩
end

/-! ### a list that may change, walked -/
section
variable {K : PySem.W.Frag} {ρ : Rho} {U : UU} {E : EndW} {tl : TE} {g : TG} {tb : TS}
theorem sw_forM (h : EV K tl ρ U fun x U1 => ∃ (p : Addr) (xs : List PyData), x = .r p ∧ ∃ Iv : Nat → Rho → UU → Prop, Iv 0 ρ U1 ∧ (∀ i ρ U, Iv i ρ U → U p = some (xs.map W.d)) ∧
      (∀ i ρ U, i < xs.length → Iv i ρ U → GW K g (.d (xs.getD i .none)) ρ U fun ρ2 U2 => SW K tb ρ2 U2 { E with nx := Iv (i + 1), ct := Iv (i + 1), bk := E.nx }) ∧ ∀ ρ U, Iv xs.length ρ U → E.nx ρ U) :
    SW K (tFor (iList K tl) g tb) ρ U E := fun σ F H D sl sp e =>
  h σ F H sl sp _ fun v x F1 U1 H1 k1 s1 r1 ⟨p, xs, ex, Iv, h0, hp, hs, hd⟩ => by
    subst ex
    obtain rfl : v = .ref p := r1
    have at' : ∀ {i ρ2 U2 F2 H2}, Iv i ρ2 U2 → Sep K F2 U2 H2 → ∃ vs, H2 p = some (.lst vs) ∧ DpAll K F2 vs xs := fun inv s2 => by
      obtain ⟨_, vs, a, _, r⟩ := s2.own p _ (hp _ _ _ inv)
      exact ⟨vs, a, rpAll_dp r⟩
    obtain ⟨vs0, a0, r0⟩ := at' h0 s1
    refine ⟨p, rfl, ⟨vs0, SqL.of a0⟩, ?_⟩
    refine ⟨fun i m σ2 H2 => m = xs.length - i ∧ i ≤ xs.length ∧ ∃ F2 ρ2 U2, Kp F1 U1 H1 F2 U2 H2 ∧ Sl K F2 σ2 ρ2 ∧ Sep K F2 U2 H2 ∧ Iv i ρ2 U2, ⟨xs.length, by simp, Nat.zero_le _, F1, ρ, U1, .refl, sl.mono k1.sub, s1, h0⟩, ?_⟩
    rintro i m σ2 H2 ⟨rfl, hi, F2, ρ2, U2, k2, sl2, s2, inv⟩
    obtain ⟨vs, a, r⟩ := at' inv s2
    have hl := dpAll_len r
    by_cases hlt : i < xs.length
    · have hv : i < vs.length := by omega
      refine .inr ⟨⟨vs, vs[i], SqL.of a, by simp [hv]⟩, fun σ' H' => ∃ F' ρ' U', Kp F1 U1 H1 F' U' H' ∧ Sl K F' σ' ρ' ∧ Sep K F' U' H' ∧ Iv (i + 1) ρ' U', fun σ' H' ⟨F', ρ', U', a, b, c, d⟩ => ⟨xs.length - (i + 1), by omega, rfl, hlt, F', ρ', U', a, b, c, d⟩, fun x H3 y => ?_⟩
      obtain ⟨rfl, hx⟩ := y
      obtain ⟨v', e1, d3⟩ := dpAll_get r (getD_of hlt)
      have e3 := hx vs (SqL.of a)
      rw [e1] at e3
      obtain rfl := Option.some.inj e3
      refine hs i ρ2 U2 hlt inv σ2 F2 H3 _ sl2 s2 d3 _ fun σ4 F4 H4 ρ4 U4 k4 sl4 s4 q => ?_
      have k14 := k2.trans k4
      exact q σ4 F4 H4 _ sl4 s4 ⟨fun σ5 F5 H5 ρ5 U5 k5 sl5 s5 n5 => ⟨F5, ρ5, U5, k14.trans k5, sl5, s5, n5⟩,
        fun v w F5 H5 U5 k5 s5 r5 q5 => e.rt v w F5 H5 U5 (k1.trans (k14.trans k5)) s5 r5 q5,
        fun σ5 F5 H5 ρ5 U5 k5 sl5 s5 n5 => e.nx σ5 F5 H5 ρ5 U5 (k1.trans (k14.trans k5)) sl5 s5 n5,
        fun σ5 F5 H5 ρ5 U5 k5 sl5 s5 n5 => ⟨F5, ρ5, U5, k14.trans k5, sl5, s5, n5⟩,
        fun σ5 F5 H5 ρ5 U5 c d v x k5 sl5 s5 h5 r5 q5 => e.er σ5 F5 H5 ρ5 U5 c d v x (k1.trans (k14.trans k5)) sl5 s5 h5 r5 q5⟩
    · obtain rfl : i = xs.length := by omega
      exact .inl ⟨⟨vs, SqL.of a, by omega⟩, e.nx σ2 F2 H2 ρ2 U2 (k1.trans k2) sl2 s2 (hd ρ2 U2 inv)⟩
end
end Tv

namespace Tv
open PySem PySem.Spec PyProof.Rows L2 RZ
/-! ### a list that may change, walked from its end -/
section
variable {K : PySem.W.Frag} {ρ : Rho} {U : UU} {E : EndW} {ta : TA} {g : TG} {tb : TS}
theorem sw_forRev (h : EA K ta ρ U fun ws U1 => ∃ (p : Addr) (xs : List PyData), ws = [.r p] ∧ ∃ Iv : Nat → Rho → UU → Prop, Iv 0 ρ U1 ∧ (∀ i ρ U, Iv i ρ U → U p = some (xs.map W.d)) ∧
      (∀ i ρ U, i < xs.length → Iv i ρ U → GW K g (.d (xs.getD (xs.length - 1 - i) .none)) ρ U fun ρ2 U2 => SW K tb ρ2 U2 { E with nx := Iv (i + 1), ct := Iv (i + 1), bk := E.nx }) ∧ ∀ ρ U, Iv xs.length ρ U → E.nx ρ U) :
    SW K (tFor (iRev K ta) g tb) ρ U E := fun σ F H D sl sp e =>
  h σ F H sl sp _ fun us ws F1 U1 H1 k1 s1 r1 ⟨p, xs, ex, Iv, h0, hp, hs, hd⟩ => by
    subst ex
    cases r1 with
    | cons ra rr =>
      cases rr
      obtain rfl := (show _ = V.ref p from ra)
      have now : ∀ {i ρ2 U2 F2 H2}, Iv i ρ2 U2 → Sep K F2 U2 H2 → ∃ vs, H2 p = some (.lst vs) ∧ DpAll K F2 vs xs := fun inv s2 => by
        obtain ⟨_, vs, a, _, r⟩ := s2.own p _ (hp _ _ _ inv)
        exact ⟨vs, a, rpAll_dp r⟩
      obtain ⟨vs0, a0, r0⟩ := now h0 s1
      have l0 := dpAll_len r0
      refine ⟨p, vs0, rfl, SqL.of a0, ?_⟩
      refine ⟨fun i m σ2 H2 => m = xs.length - i ∧ i ≤ xs.length ∧ ∃ F2 ρ2 U2, Kp F1 U1 H1 F2 U2 H2 ∧ Sl K F2 σ2 ρ2 ∧ Sep K F2 U2 H2 ∧ Iv i ρ2 U2, ⟨xs.length, by simp, Nat.zero_le _, F1, ρ, U1, .refl, sl.mono k1.sub, s1, h0⟩, ?_⟩
      rintro i m σ2 H2 ⟨rfl, hi, F2, ρ2, U2, k2, sl2, s2, inv⟩
      obtain ⟨vs, a, r⟩ := now inv s2
      have hl := dpAll_len r
      by_cases hlt : i < xs.length
      · have hv : vs0.length - 1 - i < vs.length := by omega
        refine .inr ⟨⟨by omega, vs, vs[vs0.length - 1 - i], SqL.of a, by simp [hv]⟩, fun σ' H' => ∃ F' ρ' U', Kp F1 U1 H1 F' U' H' ∧ Sl K F' σ' ρ' ∧ Sep K F' U' H' ∧ Iv (i + 1) ρ' U', fun σ' H' ⟨F', ρ', U', a, b, c, d⟩ => ⟨xs.length - (i + 1), by omega, rfl, hlt, F', ρ', U', a, b, c, d⟩, fun x H3 y => ?_⟩
        obtain ⟨rfl, hx⟩ := y
        have hj : xs.length - 1 - i < xs.length := by omega
        obtain ⟨v', e1, d3⟩ := dpAll_get r (getD_of hj)
        have e3 := hx vs (SqL.of a)
        rw [l0, e1] at e3
        obtain rfl := Option.some.inj e3
        refine hs i ρ2 U2 hlt inv σ2 F2 H3 _ sl2 s2 d3 _ fun σ4 F4 H4 ρ4 U4 k4 sl4 s4 q => ?_
        have k14 := k2.trans k4
        exact q σ4 F4 H4 _ sl4 s4 ⟨fun σ5 F5 H5 ρ5 U5 k5 sl5 s5 n5 => ⟨F5, ρ5, U5, k14.trans k5, sl5, s5, n5⟩,
          fun v w F5 H5 U5 k5 s5 r5 q5 => e.rt v w F5 H5 U5 (k1.trans (k14.trans k5)) s5 r5 q5,
          fun σ5 F5 H5 ρ5 U5 k5 sl5 s5 n5 => e.nx σ5 F5 H5 ρ5 U5 (k1.trans (k14.trans k5)) sl5 s5 n5,
          fun σ5 F5 H5 ρ5 U5 k5 sl5 s5 n5 => ⟨F5, ρ5, U5, k14.trans k5, sl5, s5, n5⟩,
          fun σ5 F5 H5 ρ5 U5 c d v x k5 sl5 s5 h5 r5 q5 => e.er σ5 F5 H5 ρ5 U5 c d v x (k1.trans (k14.trans k5)) sl5 s5 h5 r5 q5⟩
      · obtain rfl : i = xs.length := by omega
        exact .inl ⟨(show vs0.length ≤ xs.length from Nat.le_of_eq l0), e.nx σ2 F2 H2 ρ2 U2 (k1.trans k2) sl2 s2 (hd ρ2 U2 inv)⟩
end
end Tv

namespace PySem
namespace LowX
open PySem.W PySem.Calls PyProof.Rows PySem.HandSPX
/-! ### the text of __init__ -/
def iA (p1 p2 : Pos) : Arguments := { posonlyargs := [], args := [{ arg := "self", annotation := none, pos := p1 }, { arg := "value", annotation := none, pos := p2 }], vararg := none, kwonlyargs := [], kw_defaults := [], kwarg := none, defaults := [] }
def iB (q1 q2 q3 q4 : Pos) : List Stmt := [.Assign [.Attribute (.Name "self" q1) "value" q2] (.Name "value" q3) q4]
def iS : Scope := { kind := .function, names := [(PySem.Str.ofString "self", .local), (PySem.Str.ofString "value", .local)], isGenerator := false, isCoroutine := false, more := [] }
/-- what the written part says of Low, at C, and of its __init__, at fI -/
structure LowTxt (K : Frag) (mg : Str → Option Value) (nmC : Str) (C fI : Addr) : Prop where
  gC : mg nmC = some (.ref C)
  cls : ∃ nm q N bs bm sn sub ab col dd k0 k1 k2 k3 k5, K.lookup C = some (excClassObj nm q C N bs bm true sn sub ab col dd k0 k1 k2 k3 k5 "ValueError.__new__") ∧ refsVE bm = true
  sa : findIn K (.ref C) "__setattr__" = some (some (.builtin "object.__setattr__"))
  ga : findIn K (.ref C) "__getattribute__" = some (some (.builtin "BaseException.__getattribute__"))
  gg : findIn K (.ref C) "__getattr__" = some none
  noN : findIn K (.ref C) "value" = some none
  iC : findIn K (.ref C) "__init__" = some (some (.ref fI))
  tC : typeIn K (.ref fI) = some (.type "function")
  kC : keepIn K (.ref C) = true
  exC : subIn K (.ref C) (.type "BaseException") = some true
  tyC : typeIn K (.ref C) = some (.type "type")
  hdC : hasDictIn K C = true
  te : exmOne K (.ref C) (.ref C) = some true
  fn : ∃ (oc : Value) (od : Option Addr) (doc pm : Value) (an : Option Addr) (cdv ct : Value) (osl : Array (Option Value)) (p1 p2 q1 q2 q3 q4 : Pos),
    K.lookup fI = some ⟨oc, od, .func (fnOf "__init__" "OverError.__init__" (iA p1 p2) (iB q1 q2 q3 q4) iS .none .none doc pm an cdv ct), osl⟩ ∧ codeIn K cdv "OverError.__init__" = true
theorem one_size (v : Value) : [v].length ≤ sizeLine := by
  rw [sizeLine_eq]
  exact (by decide : 1 ≤ 16777216)
theorem kept_but {K : Frag} {h h' : Heap} {x : Addr} (X : K.In h) (hx : K.lookup x = none) (k : ∀ b o, b ≠ x → h.get? b = some o → h'.get? b = some o) : K.In h' := fun a o e =>
  k a o (fun z => by rw [z, hx] at e; cases e) (X a o e)
theorem ldC {M : Model} {s : Shared} {name : Str} {scope : Scope} {L a : Addr} {cd : Value} {m : Str → Option Value} {x : Str} {pos : Pos} {v : Value} {Q : Value → Shared → Prop} {A : Around} {E : Value → Shared → Prop} (hn : s.heap.Ns L m) (hv : m x = some v) (h : Q v s)
    (hk : scope.kind = .function := by rfl) (hl : (envOfC name scope L a cd).kindOf x = some .local := by rfl) (hd : (x == ("__debug__" : Str)) = false := by decide) :
    wpAny M A (eval (.Name x pos) (envOfC name scope L a cd)) Q E s := wpAny_Name (wpAny_loadName_local hk hl hn hv h) hd
/-- what __init__ leaves of a fresh exception at x -/
structure InitEnd (h h' : Heap) (x C dx t1 : Addr) (v : Value) : Prop where
  keep : ∀ b o, b ≠ x → h.get? b = some o → h'.get? b = some o
  obj : h'.get? x = some { cls := .ref C, dict := some dx, data := .fields #[.ref t1, .none, .none, .none, .bool false, .none] }
  dbig : h.objs.size ≤ dx
  dne : dx ≠ x
  ns : h'.Ns1 dx (fun y => if y = "value" then some v else none)
/-- a made Low -/
structure OwnMade (h h' : Heap) (e C d : Addr) (v : Value) : Prop where
  keep : ∀ b o, h.get? b = some o → h'.get? b = some o
  new : h.objs.size ≤ e
  obj : ∃ oe vs, h'.get? e = some oe ∧ oe.cls = .ref C ∧ oe.dict = some d ∧ oe.data = .fields vs ∧ vs[1]? = some .none
  dbig : h.objs.size ≤ d
  dne : d ≠ e
  ns : h'.Ns1 d (fun y => if y = "value" then some v else none)
section
variable {prog : Program} {w : World} {A : Around} {E : Value → Shared → Prop} {R : Result → Shared → Prop} {s : Shared} {K : Frag} {mg : Str → Option Value} {nmC : Str} {C fI : Addr}
theorem low_init (T : LowTxt K mg nmC C fI) {x t0 : Addr} {v : Value} (X : K.In s.heap) (hlim : s.heap.NoLimit) (hx : s.heap.get? x = some (excO C t0)) (hnx : K.lookup x = none) (hroom : A.depth < recursionLimit)
    (hq : ∀ h' tk dx, InitEnd s.heap h' x C dx t0 v → R (.ok (.ret .none)) { s with heap := h', toks := tk }) :
    codeAny (model prog w) A (.call (.ref fI) ⟨[.ref x, v], []⟩) R s := by
  obtain ⟨oc, od, doc, pm, an, cdv, ct, osl, p1, p2, q1, q2, q3, q4, ho, hcd⟩ := T.fn
  obtain ⟨nm, q, N, bs, bm, sn, sub, ab, col, dd, k0, k1, k2, k3, k5, hC, hbm⟩ := T.cls
  have hcl : clsIn K C = some { name := nm, bases := bs, mro := .ref C :: bm, ns := N, qualname := q, hasDict := true, slotNames := sn, subclasses := sub, abstract := ab, collection := col, hasDel := false } := by unfold clsIn; rw [hC] <;> rfl
  refine Att.call_fn (binds := [("self", .ref x), ("value", v)]) X hlim ho hcd hroom (BindsTo.of_eq (by first | rfl | with_unfolding_all rfl)) (by first | rfl | decide | with_unfolding_all rfl) (fun s₁ IC => ?_) rfl rfl rfl
  obtain ⟨h₁, tk₁, rfl⟩ := IC.toInCall.same
  have k : ∀ b o, s.heap.get? b = some o → h₁.get? b = some o := IC.toInCall.keep
  have hn := IC.toInCall.ns
  have hxL : s.heap.objs.size ≠ x := Nat.ne_of_gt (Heap.lt_size hx)
  have X₁ : K.In h₁ := X.keeps k
  have hx₁ := k _ _ hx
  -- self.by = by
  show wpAny _ _ (execs _ _) _ _ _
  refine wpAny_execs_cons (plainObj_wpAny_Assign_Attribute ?_)
  refine ldC (v := v) hn (by first | rfl | with_unfolding_all rfl | kernel_rfl) (ldC (v := .ref x) hn (by first | rfl | with_unfolding_all rfl | kernel_rfl) ?_)
  refine set_plain X₁ (ox := excO C t0) (od := none) ⟨hx₁, rfl, rfl, trivial⟩ T.sa ?_
  refine exc_osa X₁ hx₁ hcl (show refsVE (.ref C :: bm) = true from hbm) rfl T.noN (fun h₃ tk₃ dx k₃ dn dne hx₃ hn₃ => ?_)
  show wpAny _ _ (execs _ _) _ _ _
  have z : s.heap.objs.size < h₁.objs.size := hn.lt
  exact wpAny_execs_nil (hq h₃ tk₃ dx ⟨fun b o hb e => k₃ b o hb (k b o e), hx₃, Nat.le_of_lt (Nat.lt_of_lt_of_le z dn), dne, hn₃⟩)
theorem low_made (T : LowTxt K mg nmC C fI) {v : Value} (X : K.In s.heap) (hlim : s.heap.NoLimit) (hroom : A.depth + 1 < recursionLimit)
    (hq : ∀ h' tk e d, OwnMade s.heap h' e C d v → R (.ok (.ret (.ref e))) { s with heap := h', toks := tk }) :
    codeAny (model prog w) A (.call (.ref C) ⟨[v], []⟩) R s := by
  obtain ⟨nm, q, N, bs, bm, sn, sub, ab, col, dd, k0, k1, k2, k3, k5, hC, hbm⟩ := T.cls
  obtain ⟨hp, g, dr, tk, os⟩ := s
  have k : ∀ b o, hp.get? b = some o → ((hp.push (kdv_tup [v])).push (excO C hp.objs.size)).get? b = some o := fun b o e => Heap.get?_push_of_some _ (Heap.get?_push_of_some _ e)
  have hget : ((hp.push (kdv_tup [v])).push (excO C hp.objs.size)).get? (hp.objs.size + 1) = some (excO C hp.objs.size) := by heap_get
  have hnx : K.lookup (hp.objs.size + 1) = none := by
    cases e : K.lookup (hp.objs.size + 1) with
    | none => rfl
    | some o =>
      have z : hp.get? (hp.objs.size + 1) = some o := X _ _ e
      exact absurd (Nat.lt_of_succ_lt (Heap.lt_size z)) (Nat.lt_irrefl _)
  refine call_own F.excBase_ValueError (fun X => refsVE_contains X bm hbm) (X _ _ hC) (looks_findIn X T.iC) (fun self => bind_fn X self T.tC) (one_size v) ?_
  refine low_init (s := ⟨(hp.push (kdv_tup [v])).push (excO C hp.objs.size), g, dr, tk, os⟩) T (X.keeps k) (hlim.keeps k) hget hnx ?_ fun h' tk' dx ⟨k', hx, dn, dne, hns⟩ => ?_
  · show A.depth + 1 < recursionLimit
    exact hroom
  · have old : ∀ b o, hp.get? b = some o → h'.get? b = some o := fun b o e => k' b o (Nat.ne_of_lt (Nat.lt_succ_of_lt (Heap.lt_size e))) (k b o e)
    have z : hp.objs.size + 1 + 1 ≤ dx := by
      first
        | (simpa only [Heap.size_push] using dn)
        | exact dn
        | (have q := dn; rw [Heap.size_push, Heap.size_push] at q; exact q)
    exact ⟨rfl, hq h' tk' (hp.objs.size + 1) dx ⟨old, Nat.le_succ _, ⟨_, _, hx, rfl, rfl, rfl, rfl⟩, Nat.le_trans (Nat.le_trans (Nat.le_succ _) (Nat.le_succ _)) z, dne, hns⟩⟩
end
end LowX
end PySem
namespace L2
open PySem PySem.Spec PyProof.Rows
theorem relO_low {v : V} {v' : Value} (r : RelV v v') (f : Str) : RelO (List.lookup f [(("value" : Str), v)]) (if f = "value" then some v' else none) := by
  by_cases hw : f = "value"
  · subst hw
    rw [if_pos rfl]
    have q : List.lookup ("value" : Str) [(("value" : Str), v)] = some v := by simp [List.lookup]
    rw [q]
    exact r
  · rw [if_neg hw]
    have qw : (f == ("value" : Str)) = false := by simpa using hw
    have q2 : List.lookup f [(("value" : Str), v)] = none := by simp [List.lookup, qw]
    rw [q2]
    trivial
section
variable {X : Cx} {nmC : Str} {C fI : Addr}
/-- Low(e) -/
def tMkLow (C : Addr) (ta : TA) : St → Hp → XK → Prop := fun σ H Q => ta σ H fun vs H1 => ∃ v, vs = [v] ∧ ∀ d, H1 d = none → Q (.ref C) (some d) (upd H1 d (.xd [(("value" : Str), v)]))
theorem pmk_low {a : Expr} {ta : TA} {p pos : Pos} {k : Nat} (T : PySem.LowX.LowTxt X.K X.mg nmC C fI) (hr : Room k X.A) (ha : PA X [a] ta) (hg : Gl X nmC := by rfl) (hdb : (nmC == ("__debug__" : Str)) = false := by decide)
    (he : starEach (a :: []) X.env = (false, eval a X.env) :: starEach [] X.env := by rfl) (hpl : (backTo pos (starEach [] X.env)).any (·.1) = false := by rfl) :
    PMk X (.Call (.Name nmC p) [a] [] pos) (tMkLow C ta) := by
  intro pins s σ H Q I h
  refine wpAny_Call_Name_kw (ld_glob I hg T.gC ?_ hdb)
  refine PySem.W.callWith_K (h₀ := X.base) I.ok.mod.kin T.kC (thn (ha.run pos pins s σ H _ I h) fun us s1 hh => ?_) he hpl
  obtain ⟨vs, H1, I1, r1, v, ev, q1⟩ := hh
  subst ev
  refine ⟨I1.kIn, ?_⟩
  cases r1 with
  | cons rv rn =>
    rename_i v' us'
    cases rn
    show wpAny _ _ (call (.ref C) [v']) _ _ _
    have hlim := I1.nolimit
    obtain ⟨hp, g, dr, tk, os⟩ := s1
    refine wpAny_call (PySem.LowX.low_made T I1.kIn hlim (by have := hr.dp; omega) fun h' tk' e d M => ?_)
    show MkP X pins σ Q (.ref e) ⟨h', g, dr, tk', os⟩
    obtain ⟨oe, fv, hoe, hc, hd, hdat, h1⟩ := M.obj
    have hns := M.ns
    obtain ⟨G', g1, g2⟩ := restrict h' fun b => decide (b ≠ e)
    have gk : ∀ b, b ≠ e → G'.get? b = h'.get? b := fun b hb => g1 b (decide_eq_true hb)
    have ge : G'.get? e = none := g2 e (by simp)
    have old : ∀ b o, hp.get? b = some o → G'.get? b = some o := fun b o q => (gk b (Nat.ne_of_lt (Nat.lt_of_lt_of_le (Heap.lt_size q) M.new))).trans (M.keep b o q)
    have ob : ObjOk X.prog X.w (upd H1 d (.xd [(("value" : Str), v)])) G' d (.xd [(("value" : Str), v)]) :=
      ⟨_, hns.at (fun o q => (gk d M.dne).trans q), fun f => relO_low rv f⟩
    have J : Inv X pins σ (upd H1 d (.xd [(("value" : Str), v)])) ⟨G', g, dr, tk', os⟩ := I1.laid (t' := tk') old M.dbig ob
    refine ⟨e, oe, fv, ⟨G', g, dr, tk', os⟩, _, .ref C, some d, rfl, J, fun b o q => ?_, ge, hoe, ⟨hc, hd⟩, hdat, h1, ?_, rfl, I1.bare, raises_own T.exC T.tyC, q1 d (I1.hok.fresh M.dbig)⟩
    · by_cases hb : b = e
      · have q' : G'.get? b = some o := q
        rw [hb, ge] at q'; cases q'
      · exact (gk b hb).symm.trans q
    · rw [upd_ne (Ne.symm M.dne)]
      exact I1.hok.fresh M.new
/-- raise Low(e) -/
def tRaiseLow (C : Addr) (W : WX) (ta : TA) : TS := fun _ σ H => tMkLow C ta σ H fun cls d H' => W cls d σ H'
theorem ps_raiseLow {a : Expr} {ta : TA} {W : WX} {p pos pos2 : Pos} {k : Nat} (hc : X.calm = true) (T : PySem.LowX.LowTxt X.K X.mg nmC C fI) (hr : Room k X.A) (tk : Takes X W) (ha : PA X [a] ta) (hg : Gl X nmC := by rfl) (hdb : (nmC == ("__debug__" : Str)) = false := by decide)
    (he : starEach (a :: []) X.env = (false, eval a X.env) :: starEach [] X.env := by rfl) (hpl : (backTo pos (starEach [] X.env)).any (·.1) = false := by rfl) :
    PS X (.Raise (some (.Call (.Name nmC p) [a] [] pos)) none pos2) (tRaiseLow C W ta) := ps_raise hc tk (pmk_low T hr ha hg hdb he hpl)
/-- low.by, low the exception that the suite holds (at a; its class cls, its dict d) -/
def tByLow (C : Addr) (a : Addr) (cls : Value) (d : Option Addr) (te : TE) : TE := fun σ H Q => te σ H fun x H1 => x = .ref a ∧ cls = .ref C ∧ ∃ (dd : Addr) (v : V), d = some dd ∧ H1 dd = some (.xd [(("value" : Str), v)]) ∧ Q v H1
theorem pe_byLow {a : Addr} {oe : Obj} {cls : Value} {d : Option Addr} {pn : List (Addr × Obj)} {e : Expr} {te : TE} {pos : Pos} (T : PySem.LowX.LowTxt X.K X.mg nmC C fI) (hz : Zc cls d oe) (hf : ∃ vs, oe.data = .fields vs) (he : PE (X.suite a ((a, oe) :: pn)) e te)
    (hb : attributeBase e "value" X.env (eval e X.env) = eval e X.env := by rfl) :
    PE (X.suite a ((a, oe) :: pn)) (.Attribute e "value" pos) (tByLow C a cls d te) := by
  refine ⟨fun pins s σ H Q I h => ?_⟩
  refine attr_of hb (thn (he.run pins s σ H _ I h) fun u s1 hh => ?_)
  obtain ⟨x, H1, I1, rx, ex, ec, dd, v, ed, ea, q⟩ := hh
  subst ex
  obtain rfl : u = Value.ref a := rx
  subst ec
  subst ed
  obtain ⟨ha, _⟩ := I1.pin (a, oe) (List.mem_append_left _ List.mem_cons_self)
  obtain ⟨vs, hd⟩ := hf
  have hx : ObjOk X.prog X.w H1 s1.heap dd (.xd [(("value" : Str), v)]) := I1.hok dd _ ea
  obtain ⟨mA, hns, hr⟩ := hx
  obtain ⟨od, ho, hl⟩ := lookIn_ns hns
  have l : List.lookup ("value" : Str) [(("value" : Str), v)] = some v := by simp [List.lookup]
  obtain ⟨u, hu, ru⟩ := RelO.some_of (v := v) (o := mA "value") (by rw [← l]; exact hr "value")
  have J : PySem.W.InstAt s1.heap a oe C (some od) := ⟨ha, hz.1, by unfold PySem.W.notCls; rw [hd] <;> rfl, by rw [hz.2]; exact ho⟩
  exact HandSPX.exc_get I1.kIn J T.ga T.gg T.exC (PySem.W.findObj_own T.hdC T.noN rfl (by rw [hl, hu])) (handed_of ru) ⟨v, H1, I1.tok _, ru, q⟩
end
end L2


namespace Tv
open PySem PySem.Spec PyProof.Rows L2 PySem.W PySem.HandSPX
theorem exm_self {K : PySem.W.Frag} {S B : Addr} (h1 : PySem.W.subIn K (.ref S) (.type "BaseException") = some true) (h2 : PySem.W.isClsIn K S = true) (h3 : PySem.W.typeIn K (.ref S) = some (.type "type")) (h4 : PySem.W.subIn K (.ref S) (.ref S) = some true) :
    PySem.W.exmOne K (.ref S) (.ref S) = some true := by
  have e1 : (PySem.W.subIn K (.ref S) (.type "BaseException") == some true) = true := by rw [h1] <;> rfl
  have e2 : ((PySem.W.clsIn K S).isSome && PySem.W.typeIn K (.ref S) == some (.type "type")) = true := by
    have h2' : (PySem.W.clsIn K S).isSome = true := h2
    rw [h2', h3] <;> rfl
  show (if (PySem.W.subIn K (.ref S) (.type "BaseException") == some true) = true then (if ((PySem.W.clsIn K S).isSome && PySem.W.typeIn K (.ref S) == some (.type "type")) = true then PySem.W.subIn K (.ref S) (.ref S) else none) else none) = some true
  rw [if_pos e1, if_pos e2]
  exact h4
/-- an error of the module that has the makers of its base -/
theorem low_mk {K : PySem.W.Frag} {h : Heap} {mg : Str → Option Value} {nmC : Str} {C C0 f1 : Addr} (X : K.In h) (G : h.Ns mainGlobals mg)
    {nm q : Str} {N : Addr} {bs : List Value} {sn : List Str} {sub : List Value} {ab : Bool} {col : Option Bool} {dd : Option Addr} {m0 m1 m2 m3 m5 : Option Value}
    {od1 an1 : Option Addr} {sl1 : Array (Option Value)} {oc1 dc1 pm1 cd1 ct1 : Value} {p1 p2 q1 q2 q3 q4 : Pos}
    (aC : PySem.W.nsIn K mainGlobals nmC = some (some (.ref C)))
    (xL : K.lookup C = some (excClassObj nm q C N bs [.ref C0, .type "ValueError", .type "Exception", .type "BaseException", .type "object"] true sn sub ab col dd m0 m1 m2 m3 m5 "ValueError.__new__"))
    (sa : PySem.W.findIn K (.ref C) "__setattr__" = some (some (.builtin "object.__setattr__"))) (ga : PySem.W.findIn K (.ref C) "__getattribute__" = some (some (.builtin "BaseException.__getattribute__"))) (gg : PySem.W.findIn K (.ref C) "__getattr__" = some none) (nb : PySem.W.findIn K (.ref C) "value" = some none)
    (a1 : PySem.W.findIn K (.ref C) "__init__" = some (some (.ref f1))) (t1 : PySem.W.typeIn K (.ref f1) = some (.type "function"))
    (l1 : K.lookup f1 = some ⟨oc1, od1, .func (PySem.W.fnOf "__init__" "OverError.__init__" (PySem.LowX.iA p1 p2) (PySem.LowX.iB q1 q2 q3 q4) PySem.LowX.iS .none .none dc1 pm1 an1 cd1 ct1), sl1⟩) (c1 : PySem.W.codeIn K cd1 "OverError.__init__" = true)
    (kC : PySem.W.keepIn K (.ref C) = true) (eC : PySem.W.subIn K (.ref C) (.type "BaseException") = some true) (tC : PySem.W.typeIn K (.ref C) = some (.type "type")) (hC : PySem.W.hasDictIn K C = true) (iC : PySem.W.isClsIn K C = true) (sC : PySem.W.subIn K (.ref C) (.ref C) = some true) :
    ∃ C fI, PySem.LowX.LowTxt K mg nmC C fI :=
  ⟨C, f1, { gC := PySem.W.mg_of X G aC, cls := ⟨nm, q, N, bs, _, sn, sub, ab, col, dd, m0, m1, m2, m3, m5, xL, by rfl⟩, sa := sa, ga := ga, gg := gg, noN := nb, iC := a1, tC := t1, kC := kC, exC := eC, tyC := tC, hdC := hC, te := exm_self (B := C) eC iC tC sC, fn := ⟨_, _, _, _, _, _, _, _, _, _, _, _, _, _, l1, c1⟩ }⟩
end Tv

namespace Tv
open PySem PySem.Spec PyProof.Rows L2 RZ

/-! ### calls that may raise, where no repr runs -/
section
variable {X : Cx} {CT : CXT} {k : Nat} {f : Addr} {fd : FuncData} {ps : List Str} {sp : Sp} {ER : L2.St → XK} {x : Str} {p pos : Pos} {e : Expr} {es : List Expr} {t : TA}
theorem pe_callSG (F : FnG X.prog X.w X.K X.mg X.base CT k f fd ps sp) (hr : Room k X.A) (gd : X.A.guards = some []) (hg : Gl X x) (hm : X.mg x = some (.ref f)) (hk : PySem.W.keepIn X.K (.ref f) = true) (hb : Binds X.K fd ps [])
    (hx : ∀ σ, PassesAt CT X σ (ER σ)) (ha : PA X (e :: es) t) (hdb : (x == ("__debug__" : Str)) = false := by decide)
    (he : starEach (e :: es) X.env = (false, eval e X.env) :: starEach es X.env := by rfl) (hpl : (backTo pos (starEach es X.env)).any (·.1) = false := by rfl) :
    PE X (.Call (.Name x p) (e :: es) [] pos) (tCallS sp ER t) := by
  constructor
  intro pins s σ H Q I h
  refine wpAny_Call_Name_kw (ld_glob I hg hm ?_ hdb)
  refine PySem.W.callWith_K (h₀ := X.base) I.ok.mod.kin hk (thn (ha.run pos pins s σ H _ I h) ?_) he hpl
  rintro us s1 ⟨vs, H1, I1, r, q⟩
  refine ⟨I1.kIn, wpAny_call ?_⟩
  have hl : (us ++ []).length = ps.length := by
    rw [List.append_nil]
    exact r.length.symm.trans (F.len _ _ _ _ q)
  have b := hb s1 us I1.kIn hl
  rw [List.append_nil] at b
  refine codeAny_mono (F.run hr gd I1.env0 b r q) fun r s' hq => ?_
  rcases r with e | fl
  · exact hx σ pins H1 s1 e s' I1 hq
  · cases fl
    case ret u => exact I1.after hq
    all_goals exact hq.elim
end

/-! ### promises with errors -/
abbrev PX' := List W → UU → (W → UU → Prop) → (Addr → PyData → UU → Prop) → Prop
def spX (K : PySem.W.Frag) (p : PX') : Sp := fun vs H Q E => ∃ ws F U P R, RpAll K F vs ws ∧ Sep K F U H ∧ p ws U P R ∧
  (∀ v w F2 U2 H2, Kp F U H F2 U2 H2 → Sep K F2 U2 H2 → Rp K F2 v w → P w U2 → Q v H2) ∧
  ∀ F2 H2 U2 (c d : Addr) (v : V) x, Kp F U H F2 U2 H2 → Sep K F2 U2 H2 → F2 d = some (.xd [(("value" : Str), v)]) → Dp K F2 v x → R c x U2 → E (.ref c) (some d) H2
/-- where a def's errors go -/
abbrev outW (E : XK) : WX := fun cls d _ H => E cls d H
abbrev retX (P : W → UU → Prop) (R : Addr → PyData → UU → Prop) (E : XK) : EndW := { nx := fun _ U => P (.d .none) U, rt := P, er := fun _ => R, wx := outW E }
section
variable {Pg : Program} {w : World} {K : PySem.W.Frag} {mg : Str → Option Value} {base : Heap} {k : Nat} {f : Addr} {fd : FuncData} {ps N : List Str} {x qual : Str} {st : Stmt} {p : PX'}
theorem okXW (Fn : Fun K x qual st f fd) (S : FnScope N ps (defScope st)) (hl : ∀ ws U P R, p ws U P R → ws.length = ps.length)
    (go : ∀ (cdv : Value) (A : Around) (outer : List Env) (s : Shared) (H : Hp) (E : XK), Room k (A.deeper (envOfC qual (defScope st) s.heap.objs.size f cdv)) →
      (A.deeper (envOfC qual (defScope st) s.heap.objs.size f cdv)).guards = some [] →
      ∃ t, PSs (cxOf (L2.CX Pg w) Pg w K mg base N qual (defScope st) f cdv A outer s H E) (defBody st) t ∧ ∀ ws U P R, p ws U P R → SW K t (startR N ws) U (retX P R E)) :
    FnG Pg w K mg base (L2.CX Pg w) (k + 1) f fd ps (spX K p) := by
  obtain ⟨oc, od, kV, doc, pm, an, cdv, ct, osl, rfl, lk, hcd⟩ := Fn.ex
  refine fn_ofG lk hcd S ?_ ?_
  · rintro vs H Q E ⟨ws, F, U, P, R, r, _, h, _⟩
    rw [rpAll_len r]
    exact hl ws U P R h
  · intro A outer s H vs Q E hr gd h
    obtain ⟨ws, F, U, P, R, r, sp, hp, q, qe⟩ := h
    obtain ⟨t, a, b⟩ := go cdv A outer s H E hr gd
    refine ⟨t, a, b ws U P R hp _ F H _ (sl_start r) sp ⟨?_, ?_, ?_, ?_, ?_⟩⟩
    · exact fun σ F2 H2 ρ U2 k2 _ s2 z => q .non (.d .none) F2 U2 H2 k2 s2 Dp.non z
    · exact fun v w F2 H2 U2 k2 s2 r2 z => q v w F2 U2 H2 k2 s2 r2 z
    · exact fun _ _ _ _ _ _ _ _ z => z.elim
    · exact fun _ _ _ _ _ _ _ _ z => z.elim
    · exact fun σ F2 H2 ρ U2 c d v x k2 _ s2 h2 r2 z => qe F2 H2 U2 c d v x k2 s2 h2 r2 z
end

/-! ### expressions that may raise -/
def ErOk (K : PySem.W.Frag) (F : Hp) (U : UU) (H : Hp) (E : EndW) : Prop :=
  ∀ σ F2 H2 ρ U2 (c d : Addr) (v : V) x, Kp F U H F2 U2 H2 → Sl K F2 σ ρ → Sep K F2 U2 H2 → F2 d = some (.xd [(("value" : Str), v)]) → Dp K F2 v x → E.er ρ c x U2 → E.wx (.ref c) (some d) σ H2
def EVX (K : PySem.W.Frag) (te : TE) (ρ : Rho) (U : UU) (E : EndW) (P : W → UU → Prop) : Prop :=
  ∀ σ F H, Sl K F σ ρ → Sep K F U H → ErOk K F U H E → ∀ Q : VK, (∀ v w F2 U2 H2, Kp F U H F2 U2 H2 → Sep K F2 U2 H2 → Rp K F2 v w → P w U2 → Q v H2) → te σ H Q
section
variable {K : PySem.W.Frag} {ρ : Rho} {U : UU} {E : EndW} {te : TE} {ta : TA} {g : TG} {P : W → UU → Prop}
theorem evx_of (h : EV K te ρ U P) : EVX K te ρ U E P := fun σ F H sl sp _ Q k => h σ F H sl sp Q k
theorem evx_call {p : PX'} {W' : WX} (hW : E.wx = W') (h : EA K ta ρ U fun ws U1 => p ws U1 P (E.er ρ)) : EVX K (tCallS (spX K p) (WE W') ta) ρ U E P := fun σ F H sl sp er Q k =>
  h σ F H sl sp _ fun vs ws F1 U1 H1 k1 s1 r1 q => by
    subst hW
    exact ⟨ws, F1, U1, P, E.er ρ, r1, s1, q, fun v w F2 U2 H2 k2 s2 r2 z => k v w F2 U2 H2 (k1.trans k2) s2 r2 z, fun F2 H2 U2 c d v x k2 s2 h2 r2 z => er σ F2 H2 ρ U2 c d v x (k1.trans k2) (sl.mono (k1.sub.trans k2.sub)) s2 h2 r2 z⟩
theorem sw_dropX (h : EVX K te ρ U E fun _ U1 => E.nx ρ U1) : SW K (tDrop te) ρ U E := fun σ F H D sl sp e =>
  h σ F H sl sp e.er _ fun v w F1 U1 H1 k1 s1 r1 q => e.nx σ F1 H1 ρ U1 k1 (sl.mono k1.sub) s1 q
theorem sw_retXv (h : EVX K te ρ U E E.rt) : SW K (tRet te) ρ U E := fun σ F H D sl sp e =>
  h σ F H sl sp e.er _ fun v w F1 U1 H1 k1 s1 r1 q => e.rt v w F1 H1 U1 k1 s1 r1 q
theorem sw_asgX (h : EVX K te ρ U E fun w U1 => GW K g w ρ U1 E.nx) : SW K (tAsg te g) ρ U E := fun σ F H D sl sp e =>
  h σ F H sl sp e.er _ fun v w F1 U1 H1 k1 s1 r1 q => q σ F1 H1 v (sl.mono k1.sub) s1 r1 _ fun σ2 F2 H2 ρ2 U2 k2 sl2 s2 n => e.nx σ2 F2 H2 ρ2 U2 (k1.trans k2) sl2 s2 n
/-- raise C(e) -/
theorem sw_raise {C : Addr} {W' : WX} (hW : E.wx = W') (h : EA K ta ρ U fun ws U1 => ∃ x, ws = [.d x] ∧ E.er ρ C x U1) : SW K (tRaiseLow C W' ta) ρ U E := fun σ F H D sl sp e =>
  h σ F H sl sp _ fun vs ws F1 U1 H1 k1 s1 r1 ⟨x, ew, q⟩ => by
    subst ew hW
    cases r1 with
    | cons a r =>
      cases r
      rename_i v
      refine ⟨v, rfl, fun d hd => ?_⟩
      obtain ⟨s2, k2⟩ := s1.fix (o := .xd [(("value" : Str), v)]) hd
      exact e.er σ _ _ ρ U1 C d v x (k1.trans k2) (sl.mono (k1.sub.trans k2.sub)) s2 upd_same (dp_mono k2.sub x v a) q
end

/-! ### a def that may raise, as callers see it -/
structure CalX (P : Program) (w : World) (K : PySem.W.Frag) (mg : Str → Option Value) (base : Heap) (st : Stmt) (x : Str) (k : Nat) (ps : List Str) (p : PX') : Prop where
  ex : ∃ f fd, Fun K x x st f fd ∧ mg x = some (.ref f) ∧ FnG P w K mg base (L2.CX P w) k f fd ps (spX K p)
  bind : ∀ (kV doc pm : Value) (an : Option Addr) (cdv ct : Value) (us : List Value), us.length = ps.length →
    bindArgs (PySem.W.fnOf x x (defArgs st) (defBody st) (defScope st) .none kV doc pm an cdv ct) ⟨us, []⟩ = pure (ps.zip us)
section
variable {Pg : Program} {w : World} {K : PySem.W.Frag} {mg : Str → Option Value} {base : Heap} {st : Stmt} {x : Str} {k : Nat} {ps N : List Str} {p : PX'}
theorem calXW (T : At K mg st x) (S : FnScope N ps (defScope st))
    (hb : ∀ (kV doc pm : Value) (an : Option Addr) (cdv ct : Value) (us : List Value), us.length = ps.length →
      bindArgs (PySem.W.fnOf x x (defArgs st) (defBody st) (defScope st) .none kV doc pm an cdv ct) ⟨us, []⟩ = pure (ps.zip us))
    (hl : ∀ ws U P R, p ws U P R → ws.length = ps.length)
    (go : ∀ (f : Addr) (cdv : Value) (A : Around) (outer : List Env) (s : Shared) (H : Hp) (E : XK), Room k (A.deeper (envOfC x (defScope st) s.heap.objs.size f cdv)) →
      (A.deeper (envOfC x (defScope st) s.heap.objs.size f cdv)).guards = some [] →
      ∃ t, PSs (cxOf (L2.CX Pg w) Pg w K mg base N x (defScope st) f cdv A outer s H E) (defBody st) t ∧ ∀ ws U P R, p ws U P R → SW K t (startR N ws) U (retX P R E)) :
    CalX Pg w K mg base st x (k + 1) ps p := by
  obtain ⟨f, fd, a, b⟩ := T.ex
  exact ⟨⟨f, fd, a, b, okXW a S hl (go f)⟩, hb⟩
end
section
variable {X : Cx} {Pg : Program} {w : World} {K : PySem.W.Frag} {mg : Str → Option Value} {base : Heap} {st : Stmt} {x : Str} {k j : Nat} {ps : List Str} {p : PX'} {e : Expr} {es : List Expr} {t : TA} {pp pos : Pos} {W' : WX}
theorem pe_callX (C : CalX Pg w K mg base st x k ps p) (hr : Room j X.A) (gd : X.A.guards = some []) (tk : Takes X W') (hg : Gl X x) (ha : PA X (e :: es) t) (hk : k ≤ j := by decide) (hX : Here X Pg w K mg base := by exact ⟨rfl, rfl, rfl, rfl, rfl⟩)
    (hdb : (x == ("__debug__" : Str)) = false := by decide) (he : starEach (e :: es) X.env = (false, eval e X.env) :: starEach es X.env := by rfl) (hpl : (backTo pos (starEach es X.env)).any (·.1) = false := by rfl) :
    PE X (.Call (.Name x pp) (e :: es) [] pos) (tCallS (spX K p) (WE W') t) := by
  obtain ⟨rfl, rfl, rfl, rfl, rfl⟩ := hX
  obtain ⟨f, fd, a, b, c⟩ := C.ex
  exact pe_callSG c (hr.mono hk) gd hg b a.kp (a.binds C.bind) (fun σ => passAt tk σ) ha hdb he hpl
end
end Tv

namespace L2
open PySem PySem.Spec PyProof.Rows

/-! ### an error that was caught, kept for good -/
/-- the object of an error at a: its class, its dict -/
def xo (a : Addr) (cls : Value) (d : Option Addr) : HO := .ext fun h => ∃ o vs, h.get? a = some o ∧ o.cls = cls ∧ o.dict = d ∧ o.data = .fields vs
theorem xo_ok {P : Program} {w : World} {H : Hp} {h : Heap} {a : Addr} {o : Obj} {vs : Array Value} (e : h.get? a = some o) (hd : o.data = .fields vs) : ObjOk P w H h a (xo a o.cls o.dict) :=
  ⟨⟨o, vs, e, rfl, rfl, hd⟩, ⟨o, e⟩, fun _ _ ⟨o, vs, e, r⟩ k => ⟨o, vs, k o e, r⟩⟩
section
variable {X : Cx} {pins : List (Addr × Obj)} {σ : St} {H : Hp} {s : Shared}
/-- an object that nobody tracked is tracked from here on -/
theorem Inv.track (I : Inv X pins σ H s) {a : Addr} {oe : Obj} {vs : Array Value} (ha : s.heap.get? a = some oe) (hd : oe.data = .fields vs) (na : H a = none) (nL : a ≠ X.env.locals)
    (n0 : X.s_0.heap.get? a = none) (np : ∀ p ∈ X.pn ++ pins, p.1 ≠ a) : Inv X pins σ (upd H a (xo a oe.cls oe.dict)) s := by
  have old : ∀ {b : Addr} {u : HO}, H b = some u → upd H a (xo a oe.cls oe.dict) b = some u := fun {b u} e => by
    rw [upd_ne (ne_of_none e na)]
    exact e
  have out : ∀ {b : Addr}, b ≠ a → H b = none → upd H a (xo a oe.cls oe.dict) b = none := fun {b} e n => by
    rw [upd_ne e]
    exact n
  exact
    { ok := I.ok
      os := I.os
      bare := I.bare
      base :=
        { keep := I.base.keep
          slot := I.base.slot
          free := fun b o e n hx => out (fun z => by rw [z, n0] at e; cases e) (I.base.free b o e n hx)
          there := I.base.there
          tups := fun b xs e => old (I.base.tups b xs e)
          frzs := fun b o u e => old (I.base.frzs b o u e)
          tbls := fun b ps e => by
            obtain ⟨more, z⟩ := I.base.tbls b ps e
            exact ⟨more, old z⟩ }
      loc := I.loc
      cell := I.cell
      free := out (Ne.symm nL) I.free
      freeC := fun x c e => out (fun z => by
        obtain ⟨v, o, ho, hv⟩ := I.cell x c e
        rw [z, ha] at ho
        cases ho
        rw [hd] at hv
        cases hv) (I.freeC x c e)
      pin := fun p hp => by
        obtain ⟨p1, p2, p3⟩ := I.pin p hp
        exact ⟨p1, out (np p hp) p2, p3⟩
      hok := fun b u e => by
        by_cases z : b = a
        · subst z
          rw [upd_same] at e
          cases e
          exact xo_ok ha hd
        · rw [upd_ne z] at e
          exact (I.hok b u e).stay (fun _ _ _ q => q) (fun _ q => old q) fun _ _ q => old q
      len := I.len }
/-- into an except suite that pins nothing new -/
theorem Inv.into (I : Inv X pins σ H s) (a : Addr) : Inv (X.suite a (X.pn ++ pins)) [] σ H s :=
  { ok := I.ok.suite _ _, os := I.os, bare := I.bare, base := I.base, loc := I.loc, cell := I.cell, free := I.free, freeC := I.freeC
    pin := fun p hp => I.pin p (by
      have z : p ∈ (X.pn ++ pins) ++ [] := hp
      rw [List.append_nil] at z
      exact z)
    hok := I.hok, len := I.len }
theorem Inv.outof {a : Addr} (I : Inv (X.suite a (X.pn ++ pins)) [] σ H s) (ok : X.Ok) : Inv X pins σ H s :=
  { ok := ok, os := I.os, bare := I.bare, base := I.base, loc := I.loc, cell := I.cell, free := I.free, freeC := I.freeC
    pin := fun p hp => I.pin p (by
      show p ∈ (X.pn ++ pins) ++ []
      rw [List.append_nil]
      exact hp)
    hok := I.hok, len := I.len }
end

/-- what a clause 'except x as n' asks of an error of the body: in the suite the error is known for good; slot i is n's -/
def wHold (K : PySem.W.Frag) (c : Value) (i : Nat) (ts : TS) (Wout : WX) (D : Ends) : WX := fun cls d σ H =>
  ∃ b, PySem.W.exmOne K cls c = some b ∧
    (b = true → ∀ a, H a = none → ts { nx := fun τ G => D.nx (τ.set i none) G, rt := D.rt, bk := fun τ G => D.bk (τ.set i none) G, ct := fun τ G => D.ct (τ.set i none) G } (σ.set i (some (.ref a))) (upd H a (xo a cls d))) ∧
    (b = false → Wout cls d σ H)

/-- try: tb; except c as the name in slot i: ts -/
def tHold (K : PySem.W.Frag) (c : Value) (i : Nat) (ts : TS) (Wout : WX) (tb : WX → TS) : TS := fun D σ H => tb (wHold K c i ts Wout D) D σ H
section
variable {X : Cx} {x n : Str} {c : Value} {i : Nat} {body suite : List Stmt} {b₀ : Stmt} {np pos pos' : Pos} {tb : WX → TS} {ts : TS} {Wout : WX}
/-- behind the suite its name goes -/
theorem suite_end {pins : List (Addr × Obj)} {a : Addr} {s6 : Shared} {D : Ends} {f : Flow} (ok : X.Ok) (hN : X.N.Nodup) (hi : X.N[i]? = some n) (hln : X.env.kindOf n = some .local)
    (q : SP (X.suite a (X.pn ++ pins)) [] { nx := fun τ G => D.nx (τ.set i none) G, rt := D.rt, bk := fun τ G => D.bk (τ.set i none) G, ct := fun τ G => D.ct (τ.set i none) G } f s6) :
    wpAny (model X.prog X.w) X.A (do bindName X.env n .none; unbindBehindTheSuite X.env n pos') (fun _ s7 => SP X pins D f s7) X.xe s6 := by
  cases f with
  | ret u =>
    obtain ⟨v, τ, G, J, r, e⟩ := q
    exact gone_ok (J.outof ok) hN hi hln fun s7 J7 => ⟨v, _, G, J7, r, e⟩
  | next =>
    obtain ⟨τ, G, J, e⟩ := q
    exact gone_ok (J.outof ok) hN hi hln fun s7 J7 => ⟨_, G, J7, e⟩
  | brk =>
    obtain ⟨τ, G, J, e⟩ := q
    exact gone_ok (J.outof ok) hN hi hln fun s7 J7 => ⟨_, G, J7, e⟩
  | cont =>
    obtain ⟨τ, G, J, e⟩ := q
    exact gone_ok (J.outof ok) hN hi hln fun s7 J7 => ⟨_, G, J7, e⟩

/-- where the errors of a try's body go -/
abbrev caughtBy (X : Cx) (pins : List (Addr × Obj)) (D : Ends) (hd : List ExceptHandler) : Value → Shared → Prop := fun e s1 =>
  wpAny (model X.prog X.w) X.A (noteFrame e X.env) (fun _ s2 =>
    wpAny (model X.prog X.w) X.A (setFlight e none) (fun _ s3 =>
      wpAny (model X.prog X.w) X.A (handleBy e X.env hd) (SP X pins D) X.xe s3) X.xe s2) X.xe s1

theorem ps_try_hold (hs : X.stack = X.env :: X.outer) (hf : X.env.frame = some X.env.locals) (hex : X.ex = []) (hN : X.N.Nodup) (hi : X.N[i]? = some n) (hln : X.env.kindOf n = some .local) (hc : Names X x c) (tk : Takes X Wout)
    (hb : ∀ (W : WX) (pn : List (Addr × Obj)) (xe : Value → Shared → Prop), Takes (X.tr pn xe) W → PassesOwn (model X.prog X.w) X.A X.env xe → PSs (X.tr pn xe) body (tb W))
    (hsu : ∀ (a : Addr) (pn : List (Addr × Obj)), PSs (X.suite a pn) (b₀ :: suite) ts) :
    PS X (.Try body [.ExceptHandler (some (.Name x np)) (some n) (b₀ :: suite) pos'] [] [] pos) (tHold X.K c i ts Wout tb) := by
  constructor
  intro pins s σ H D I h
  have ok := I.ok
  have stk : X.A.frames = some (X.env :: X.outer) := ok.frames.trans (congrArg some hs)
  apply wpAny_Try_except
  have takes : Takes (X.tr (X.pn ++ pins) (caughtBy X pins D [.ExceptHandler (some (.Name x np)) (some n) (b₀ :: suite) pos'])) (wHold X.K c i ts Wout D) := by
    rintro u s' ⟨a, B, sI, pins', τ, G, cls, d, rfl, J', nb, up, sky, na, os, ag, b, hb1, yes, no⟩
    have J : Inv X pins τ G sI := J'.ofTry ok
    have sky2 : Sky B (X.env :: X.outer) a (Zc cls d) X.env.locals s'.heap := hs ▸ sky
    refine Sky.land Zc.steady stk hf sky2 ?_
    intro h3 fly up3
    have J3 : Inv X pins τ G { s' with heap := h3 } := J.landed nb fly.1 (up.trans up3) os ag
    obtain ⟨o3, v3, e3, z3, d3⟩ := fly.there
    have aB : B.get? a = none := fly.2.1
    have noFrame : a ∉ frs X.stack := by
      intro hm
      rw [hs] at hm
      obtain ⟨_, o', e', nf⟩ := fly.2.2.1.mem hm
      rw [e3] at e'
      cases e'
      exact nf _ d3
    have nL : a ≠ X.env.locals := by
      intro z
      refine noFrame ?_
      rw [hs]
      exact List.mem_filterMap.mpr ⟨X.env, List.mem_cons_self, by rw [hf, z]⟩
    have inB : ∀ {q : Addr} {o : Obj}, sI.heap.get? q = some o → q ∉ frs X.stack → q ≠ a := by
      intro q o e hq z
      have := nb q o e hq
      rw [z, aB] at this
      cases this
    have n0 : X.s_0.heap.get? a = none := by
      cases q : X.s_0.heap.get? a with
      | none => rfl
      | some o =>
        obtain ⟨o', e'⟩ := J.base.there a o q (by rw [hex]; exact List.not_mem_nil)
        exact absurd rfl (inB e' noFrame)
    have np' : ∀ p ∈ X.pn ++ pins, p.1 ≠ a := by
      intro p hp
      obtain ⟨p1, _, p3, p4, _⟩ := J.pin p hp
      refine inB p1 fun hm => ?_
      rcases List.mem_cons.mp (J.stkSub p.1 hm) with z | z
      · exact p3 z
      · exact p4 z
    have tr : ∀ {h4 : Heap}, HandSPX.FlyingZ B (X.env :: X.outer) a (Zc cls d) h4 → Inv X pins τ G { s' with heap := h4 } → Inv X pins τ (upd G a (xo a cls d)) { s' with heap := h4 } := by
      intro h4 f4 J4
      obtain ⟨o4, v4, e4, ⟨z4, z5⟩, d4⟩ := f4.there
      have := J4.track e4 d4 na nL n0 np'
      rw [z4, z5] at this
      exact this
    have S3 := (tr fly J3).into a
    refine wpAny_handleBy_cons (codeAny_handlers_test ?_) (by intro q; cases q)
    have type3 : PySem.W.Looks (model X.prog X.w) h3 (typeOf (.ref a)) cls := by
      intro A Q E s k q
      exact wpAny_typeOf_ref (k _ _ e3) (by rw [z3.1]; exact q)
    have match3 := PySem.W.exm_one (M := model X.prog X.w) J3.kIn type3 hb1
    have named : ∀ {Q : Value → Shared → Prop} {E : Value → Shared → Prop}, Q c { s' with heap := h3 } → wpAny (model X.prog X.w) (X.A.mark (some (.ref a))) (eval (.Name x np) X.env) Q E { s' with heap := h3 } := by
      intro Q E q
      obtain ⟨g, dbg, m | ⟨m, v, nn⟩⟩ := hc
      · exact ld_glob S3 g m q dbg
      · exact ld_blt S3 g m v q nn dbg
    refine named (match3.here ?_)
    cases b with
    | false =>
      show wpAny _ X.A (handleBy (.ref a) X.env []) _ _ _
      apply wpAny_handleBy_nil
      obtain ⟨_, _, _, oe, vs, T, oT, tss, e5, z5, d5, f5, _⟩ := id fly
      unfold PySem.passOn
      refine wpAny_bind (wpAny_field e5 d5 f5 ?_)
      rw [if_neg (show ¬ ((Value.ref T == Value.none) = true) from by simp)]
      have away : wpAny (model X.prog X.w) X.A (setFlight (.ref a) X.env.frame) (fun _ s4 => wpAny (model X.prog X.w) X.A (throw (.ref a) : Sem Flow) (SP X pins D) X.xe s4) X.xe { s' with heap := h3 } := by
        rw [hf]
        refine HandSPX.setFlight_upZ fly ?_
        intro h4 held up4
        refine wpAny_throw (tk _ _ ⟨a, B, sI, pins, τ, G, cls, d, rfl, J, nb, (up.trans up3).trans up4, ?_, na, os, ag, no rfl⟩)
        exact .inr (.inr (hs ▸ held))
      first
        | exact wpAny_bind (wpAny_pure (wpAny_bind away))
        | exact wpAny_bind away
    | true =>
      apply codeAny_handlers_suite_as
      refine HandSPX.lands_againZ fly ?_
      intro h4 fly4 up4
      have J4 : Inv X pins τ G { s' with heap := h4 } := J.landed nb fly4.1 ((up.trans up3).trans up4) os ag
      have S4 := (tr fly4 J4).into a
      refine store_ok (X := X.suite a (X.pn ++ pins)) (v := .ref a) S4 hN hi (.inl hln) rfl (fun s5 S5 => ?_) (.inr hln)
      refine wpAny_mono ((hsu a (X.pn ++ pins)).run [] s5 _ _ _ S5 (yes rfl a na)) (fun f s6 q => ?_) fun _ _ z => z.elim
      have fin := suite_end (pos' := pos') ok hN hi hln q
      cases f <;> exact fin
  refine wpAny_mono ((hb _ (X.pn ++ pins) _ takes PassesOwn.looking).run [] s σ H D (I.toTry _) h) (fun f s1 q => ?_) fun _ _ z => z
  cases f with
  | next =>
    obtain ⟨τ, G, J, e⟩ := q
    exact wpAny_execs_nil ⟨τ, G, J.ofTry ok, e⟩
  | ret u =>
    obtain ⟨v, τ, G, J, r, e⟩ := q
    exact ⟨v, τ, G, J.ofTry ok, r, e⟩
  | brk =>
    obtain ⟨τ, G, J, e⟩ := q
    exact ⟨τ, G, J.ofTry ok, e⟩
  | cont =>
    obtain ⟨τ, G, J, e⟩ := q
    exact ⟨τ, G, J.ofTry ok, e⟩
end

/-! ### asking such an error -/
/-- what is wanted of its class -/
structure ErrC (K : PySem.W.Frag) (D : Addr) : Prop where
  hc : PySem.W.isClsIn K D = true
  hg : PySem.W.findIn K (.ref D) "__getattribute__" = some (some (.builtin "BaseException.__getattribute__"))
  hk : PySem.W.findIn K (.ref D) "__getattr__" = some none
  hs : PySem.W.subIn K (.ref D) (.type "BaseException") = some true
  hd : PySem.W.hasDictIn K D = true
  ha : PySem.W.findIn K (.ref D) "__class__" = some (some (.builtin "object.__class__"))
  hn : PySem.W.specialIn K (.builtin "object.__class__") "__get__" = some (some (.builtin "getset_descriptor.__get__"))
  ht : PySem.W.takesIn K (.builtin "object.__class__") = some true
  hm : PySem.W.mroIn K D (.type "object") = some true
/-- isinstance(e, C) -/
def rIsX (K : PySem.W.Frag) : List V → Hp → VK → Prop := fun xs H Q => ∃ (a C D d : Addr) (u : V) (b : Bool), xs = [.ref a, .ref D] ∧ H a = some (xo a (.ref C) (some d)) ∧ H d = some (.xd [(("value" : Str), u)]) ∧ ErrC K C ∧ PySem.W.kitOne K (.ref C) (.ref D) = some b ∧ Q (.bl b) H
section
variable {X : Cx} {pins : List (Addr × Obj)} {σ : St} {H : Hp} {s : Shared}
theorem Inv.errAt (I : Inv X pins σ H s) {a C d : Addr} {u : V} (ha : H a = some (xo a (.ref C) (some d))) (hd : H d = some (.xd [(("value" : Str), u)])) :
    ∃ o od v, PySem.W.InstAt s.heap a o C (some od) ∧ PySem.W.lookIn "value" od = some (some v) ∧ RelV u v := by
  have x1 : ObjOk X.prog X.w H s.heap a (xo a (.ref C) (some d)) := I.hok a _ ha
  obtain ⟨⟨o, vs, e1, e2, e3, e4⟩, _, _⟩ := x1
  have x2 : ObjOk X.prog X.w H s.heap d (.xd [(("value" : Str), u)]) := I.hok d _ hd
  obtain ⟨mA, hns, hr⟩ := x2
  obtain ⟨od, ho, hl⟩ := lookIn_ns hns
  have l : List.lookup ("value" : Str) [(("value" : Str), u)] = some u := by simp [List.lookup]
  obtain ⟨v, hv, rv⟩ := RelO.some_of (v := u) (o := mA "value") (by rw [← l]; exact hr "value")
  exact ⟨o, od, v, ⟨e1, e2, by unfold PySem.W.notCls; rw [e4] <;> rfl, by rw [e3]; exact ho⟩, by rw [hl, hv], rv⟩
theorem b_isX : CallR X (.builtin "isinstance") (rIsX X.K) := by
  intro pins s σ H xs us Q I r h
  obtain ⟨a, C, D, d, u, b, rfl, ha, hd, x, e, q⟩ := h
  cases r with
  | cons r1 rr =>
    cases rr with
    | cons r2 rr =>
      cases rr
      cases r1
      cases r2
      obtain ⟨o, od, v, J, _, _⟩ := I.errAt ha hd
      exact PySem.W.kia_one (PySem.W.kitx_exc x.hc x.hg x.hk x.hs x.ha x.hn x.ht x.hm) I.kIn J e (fun z => nomatch z) fun tk => ⟨.bl b, H, I.tok tk, rfl, q⟩
/-- e.value -/
def tValX (K : PySem.W.Frag) (te : TE) : TE := fun σ H Q => te σ H fun x H1 => ∃ (a C d : Addr) (u : V), x = .ref a ∧ H1 a = some (xo a (.ref C) (some d)) ∧ H1 d = some (.xd [(("value" : Str), u)]) ∧ ErrC K C ∧ PySem.W.findIn K (.ref C) "value" = some none ∧ Q u H1
theorem pe_valX {e : Expr} {te : TE} {pos : Pos} (he : PE X e te) (hb : attributeBase e "value" X.env (eval e X.env) = eval e X.env := by rfl) : PE X (.Attribute e "value" pos) (tValX X.K te) := by
  constructor
  intro pins s σ H Q I h
  refine attr_of hb (thn (he.run pins s σ H _ I h) ?_)
  rintro u s1 ⟨x, H1, I1, rx, a, C, d, v, rfl, ha, hd, x, nv, q⟩
  obtain rfl : u = Value.ref a := rx
  obtain ⟨o, od, v', J, hl, rv⟩ := I1.errAt ha hd
  exact PySem.HandSPX.exc_get I1.kIn J x.hg x.hk x.hs (PySem.W.findObj_own x.hd nv rfl hl) (handed_of rv) ⟨v, H1, I1.tok _, rv, q⟩
end

/-! ### f(k = v, ..), f may raise -/
section
variable {X : Cx} {CT : CXT} {k : Nat} {f : Addr} {fd : FuncData} {ps ks : List Str} {sp : Sp} {ER : L2.St → XK} {x : Str} {p pos : Pos} {kws : List Keyword} {tk : TA} {g : List Value → List Value → List Value} {gV : List V → List V → List V}
def tCallSK (sp : Sp) (gV : List V → List V → List V) (ER : L2.St → XK) (t tk : TA) : TE := fun σ H Q => t σ H fun vs H1 => tk σ H1 fun zs H2 => sp (gV vs zs) H2 Q (ER σ)
theorem pe_callSGK0 (F : Tv.FnG X.prog X.w X.K X.mg X.base CT k f fd ps sp) (hr : Room k X.A) (gd : X.A.guards = some []) (hg : Gl X x) (hm : X.mg x = some (.ref f)) (hk : PySem.W.keepIn X.K (.ref f) = true) (hb : KBinds X.K fd ps ks g gV)
    (hx : ∀ σ, PassesAt CT X σ (ER σ)) (hkw : PK X kws tk) (hall : (backToKw pos (keywordEach kws X.env)).all (·.1.isSome) = true := by rfl) (hks : (backToKw pos (keywordEach kws X.env)).filterMap (·.1) = ks := by rfl)
    (hdb : (x == ("__debug__" : Str)) = false := by decide) (hpl : (backToKw pos (keywordEach kws X.env)).any (·.1.isNone) = false := by rfl) :
    PE X (.Call (.Name x p) [] kws pos) (tCallSK sp gV ER tNil tk) := by
  constructor
  intro pins s σ H Q I h
  refine wpAny_Call_Name_kw (ld_glob I hg hm ?_ hdb)
  refine PySem.W.callWith_KW0 (h₀ := X.base) I.ok.mod.kin hk hall (thn (hkw.run pos pins s σ H _ I h) ?_) (by exact hpl)
  rintro ws s2 ⟨zs, H2, I2, rz, q2⟩
  refine ⟨I2.kIn, ?_⟩
  rw [hks]
  have r2 := hb.rel .nil rz
  have hl : (g [] ws).length = ps.length := r2.length.symm.trans (F.len _ _ _ _ q2)
  refine wpAny_call (codeAny_mono (F.run hr gd I2.env0 (hb.to s2 [] ws I2.kIn hl) r2 q2) fun r s' hq => ?_)
  rcases r with e | fl
  · exact hx σ pins H2 s2 e s' I2 hq
  · cases fl
    case ret u => exact I2.after hq
    all_goals exact hq.elim
end
end L2

namespace Tv
open PySem PySem.Spec PyProof.Rows L2 RZ
/-! ### things beyond data -/
section
variable (K : PySem.W.Frag)
/-- an error of the class at c, its value x -/
def isErr (c : Addr) (x : PyData) : Hp → V → Prop := fun F v => ∃ a d u, v = .ref a ∧ F a = some (xo a (.ref c) (some d)) ∧ F d = some (.xd [(("value" : Str), u)]) ∧ Dp K F u x
abbrev W.er (c : Addr) (x : PyData) : W := .x (isErr K c x)
/-- a tuple of things -/
def isTup (ws : List W) : Hp → V → Prop := fun F v => ∃ a vs, v = .ref a ∧ SqT K F a vs ∧ RpAll K F vs ws
abbrev W.tw (ws : List W) : W := .x (isTup K ws)
end
section
variable {K : PySem.W.Frag} {F : Hp}
theorem rp_er {a d c : Addr} {u : V} {x : PyData} (h1 : F a = some (xo a (.ref c) (some d))) (h2 : F d = some (.xd [(("value" : Str), u)])) (h3 : Dp K F u x) : Rp K F (.ref a) (.er K c x) :=
  fun G s => ⟨a, d, u, rfl, s _ _ h1, s _ _ h2, dp_mono s x u h3⟩
theorem rp_tw {a : Addr} {vs : List V} {ws : List W} (h : SqT K F a vs) (r : RpAll K F vs ws) : Rp K F (.ref a) (.tw K ws) := fun G s => ⟨a, vs, rfl, sqt_mono s h, rpAll_mono s r⟩
theorem of_er {v : V} {c : Addr} {x : PyData} (h : Rp K F v (.er K c x)) : isErr K c x F v := h F (Same.refl F)
theorem of_tw {v : V} {ws : List W} (h : Rp K F v (.tw K ws)) : isTup K ws F v := h F (Same.refl F)
end
section
variable {K : PySem.W.Frag} {ρ : Rho} {U : UU} {P : W → UU → Prop} {te : TE} {t : TA} {E : EndW} {gs : TGs} {N : Rho → UU → Prop}
theorem ev_tupW (h : EA K t ρ U fun ws U1 => ws.length ≤ sizeLine ∧ P (.tw K ws) U1) : EV K (tTup t) ρ U P := fun σ F H sl sp Q k =>
  h σ F H sl sp _ fun vs ws F1 U1 H1 k1 s1 r1 ⟨hz, q⟩ => by
    refine ⟨by rw [rpAll_len r1]; exact hz, fun p hp => ?_⟩
    obtain ⟨s2, k2⟩ := s1.fix (o := .tup vs) hp
    exact k _ (.tw K ws) _ _ _ (k1.trans k2) s2 (rp_tw (SqT.of upd_same) (rpAll_mono k2.sub r1)) q
theorem gw_tupW {n : Nat} {ws : List W} (hn : ws.length = n) (h : GsW K gs ws ρ U N) : GW K (gTup K n gs) (.tw K ws) ρ U N := fun σ F H v sl sp r Q k => by
  obtain ⟨a, vs, rfl, q, ra⟩ := of_tw r
  exact ⟨_, _, rfl, sqt_mono sp.sub q, (rpAll_len ra).trans hn, h σ F H _ sl sp ra Q k⟩
theorem rl_isX {c D : Addr} {x : PyData} {b : Bool} (hc : ErrC K c) (e : PySem.W.kitOne K (.ref c) (.ref D) = some b) (q : P (.b b) U) : RLW K (rIsX K) [.er K c x, .r D] U P := fun vs F H sp r Q k => by
  cases r with
  | cons r1 rr =>
    cases rr with
    | cons r2 rr =>
      cases rr
      obtain ⟨a, d, u, rfl, h1, h2, _⟩ := of_er r1
      obtain rfl := (show _ = V.ref D from r2)
      exact ⟨a, c, D, d, u, b, rfl, sp.sub _ _ h1, sp.sub _ _ h2, hc, e, k _ (.b b) F U H .refl sp (Dp.bl b) q⟩
theorem ev_valX (h : EV K te ρ U fun w U1 => ∃ c x, w = .er K c x ∧ ErrC K c ∧ PySem.W.findIn K (.ref c) "value" = some none ∧ P (.d x) U1) : EV K (tValX K te) ρ U P := fun σ F H sl sp Q k =>
  h σ F H sl sp _ fun v w F1 U1 H1 k1 s1 r1 ⟨c, x, e, hc, hv, q⟩ => by
    subst e
    obtain ⟨a, d, u, rfl, h1, h2, h3⟩ := of_er r1
    exact ⟨a, c, d, u, rfl, s1.sub _ _ h1, s1.sub _ _ h2, hc, hv, k u (.d x) F1 U1 H1 k1 s1 h3 q⟩

/-! ### lists of expressions that may raise -/
theorem ErOk.on {F F1 H H1 : Hp} {U1 : UU} (e : ErOk K F U H E) (k : Kp F U H F1 U1 H1) : ErOk K F1 U1 H1 E := fun σ F2 H2 ρ U2 c d v x k2 => e σ F2 H2 ρ U2 c d v x (k.trans k2)
def EAX (K : PySem.W.Frag) (ta : TA) (ρ : Rho) (U : UU) (E : EndW) (P : List W → UU → Prop) : Prop :=
  ∀ σ F H, Sl K F σ ρ → Sep K F U H → ErOk K F U H E → ∀ Q : List V → Hp → Prop, (∀ vs ws F2 U2 H2, Kp F U H F2 U2 H2 → Sep K F2 U2 H2 → RpAll K F2 vs ws → P ws U2 → Q vs H2) → ta σ H Q
theorem eax_of {ta : TA} {P : List W → UU → Prop} (h : EA K ta ρ U P) : EAX K ta ρ U E P := fun σ F H sl sp _ Q k => h σ F H sl sp Q k
theorem eax_cons {P : List W → UU → Prop} (h : EVX K te ρ U E fun x U1 => EAX K t ρ U1 E fun ws U2 => P (x :: ws) U2) : EAX K (tCons te t) ρ U E P := fun σ F H sl sp er Q k =>
  h σ F H sl sp er _ fun v x F1 U1 H1 k1 s1 r1 h1 => h1 σ F1 H1 (sl.mono k1.sub) s1 (er.on k1) _ fun vs ws F2 U2 H2 k2 s2 r2 h2 =>
    k _ _ F2 U2 H2 (k1.trans k2) s2 (.cons (rp_mono k2.sub r1) r2) h2
theorem evx_tupW (h : EAX K t ρ U E fun ws U1 => ws.length ≤ sizeLine ∧ P (.tw K ws) U1) : EVX K (tTup t) ρ U E P := fun σ F H sl sp er Q k =>
  h σ F H sl sp er _ fun vs ws F1 U1 H1 k1 s1 r1 ⟨hz, q⟩ => by
    refine ⟨by rw [rpAll_len r1]; exact hz, fun p hp => ?_⟩
    obtain ⟨s2, k2⟩ := s1.fix (o := .tup vs) hp
    exact k _ (.tw K ws) _ _ _ (k1.trans k2) s2 (rp_tw (SqT.of upd_same) (rpAll_mono k2.sub r1)) q
theorem evx_callK {p : PX'} {W' : WX} {gV : List V → List V → List V} {gW : List W → List W → List W} {tk : TA} (hW : E.wx = W') (hg : ∀ {F : Hp} {vs us : List V} {ws zs : List W}, RpAll K F vs ws → RpAll K F us zs → RpAll K F (gV vs us) (gW ws zs))
    (h : EA K t ρ U fun ws U1 => EA K tk ρ U1 fun zs U2 => p (gW ws zs) U2 P (E.er ρ)) : EVX K (tCallSK (spX K p) gV (WE W') t tk) ρ U E P := fun σ F H sl sp er Q k =>
  h σ F H sl sp _ fun vs ws F1 U1 H1 k1 s1 r1 h1 => h1 σ F1 H1 (sl.mono k1.sub) s1 _ fun us zs F2 U2 H2 k2 s2 r2 q => by
    subst hW
    have k12 := k1.trans k2
    exact ⟨gW ws zs, F2, U2, P, E.er ρ, hg (rpAll_mono k2.sub r1) r2, s2, q, fun v w F3 U3 H3 k3 s3 r3 z => k v w F3 U3 H3 (k12.trans k3) s3 r3 z,
      fun F3 H3 U3 c d v x k3 s3 h3 r3 z => er σ F3 H3 ρ U3 c d v x (k12.trans k3) (sl.mono (k12.sub.trans k3.sub)) s3 h3 r3 z⟩
theorem evx_callKP {p : PX'} {W' : WX} {m k : Nat} {pos : List Nat} {tk : TA} (hW : E.wx = W') (h : EA K t ρ U fun ws U1 => EA K tk ρ U1 fun zs U2 => p (pick m k pos ws zs) U2 P (E.er ρ)) :
    EVX K (tCallSK (spX K p) (pick m k pos) (WE W') t tk) ρ U E P := evx_callK (gW := pick m k pos) hW rp_pick h

/-! ### try: .. except C as n: .. -/
theorem Sl.drop {F : Hp} {σ : L2.St} (h : Sl K F σ ρ) (i : Nat) : Sl K F (σ.set i none) (ρ.set i none) := by
  refine ⟨by simp [h.len], fun j w q => ?_⟩
  by_cases e : i = j
  · subst e
    rw [List.getElem?_set] at q
    simp at q
  · rw [List.getElem?_set_ne e] at q ⊢
    exact h.get j w q
/-- the ends of a suite whose name is in slot i -/
def sufE (E : EndW) (i : Nat) : EndW := { nx := fun r u => E.nx (r.set i none) u, rt := E.rt, bk := fun r u => E.bk (r.set i none) u, ct := fun r u => E.ct (r.set i none) u }
theorem sw_try {tb : WX → TS} {ts : TS} {c : Value} {i : Nat} {Wout : WX}
    (hb : ∀ W, SW K (tb W) ρ U { E with er := fun ρ2 cc x U2 => PySem.W.exmOne K (.ref cc) c = some true ∧ SW K ts (ρ2.set i (some (.er K cc x))) U2 (sufE E i), wx := W }) :
    SW K (tHold K c i ts Wout tb) ρ U E := fun σ F H D sl sp e =>
  hb (wHold K c i ts Wout D) σ F H D sl sp ⟨e.nx, e.rt, e.bk, e.ct, fun τ F2 H2 ρ2 U2 cc d v x k2 sl2 s2 h2 r2 ⟨q1, q2⟩ => ⟨true, q1, fun _ a ha => by
    obtain ⟨s3, k3⟩ := s2.fix (o := xo a (.ref cc) (some d)) ha
    have k23 := k2.trans k3
    exact q2 _ _ _ _ ((sl2.mono k3.sub).set i (rp_er upd_same (k3.sub _ _ h2) (dp_mono k3.sub x v r2))) s3
      ⟨fun τ F4 H4 ρ4 U4 k4 sl4 s4 z => e.nx _ F4 H4 _ U4 (k23.trans k4) (sl4.drop i) s4 z, fun v w F4 H4 U4 k4 s4 r4 z => e.rt v w F4 H4 U4 (k23.trans k4) s4 r4 z,
        fun τ F4 H4 ρ4 U4 k4 sl4 s4 z => e.bk _ F4 H4 _ U4 (k23.trans k4) (sl4.drop i) s4 z, fun τ F4 H4 ρ4 U4 k4 sl4 s4 z => e.ct _ F4 H4 _ U4 (k23.trans k4) (sl4.drop i) s4 z,
        fun _ _ _ _ _ _ _ _ _ _ _ _ _ _ z => z.elim⟩, fun z => nomatch z⟩⟩
end
section
variable {X : Cx} {Pg : Program} {w : World} {K : PySem.W.Frag} {mg : Str → Option Value} {base : Heap} {st : Stmt} {x : Str} {k j : Nat} {ps ks : List Str} {p : PX'} {kws : List Keyword} {tk : TA} {pp pos : Pos} {W' : WX} {g : List Value → List Value → List Value} {gV : List V → List V → List V}
theorem pe_callXK0 (C : CalX Pg w K mg base st x k ps p) (hr : Room j X.A) (gd : X.A.guards = some []) (tks : Takes X W') (hg : Gl X x)
    (hb : ∀ f fd, Fun K x x st f fd → KBinds K fd ps ks g gV) (hkw : PK X kws tk) (hk : k ≤ j := by decide) (hX : Here X Pg w K mg base := by exact ⟨rfl, rfl, rfl, rfl, rfl⟩)
    (hall : (backToKw pos (keywordEach kws X.env)).all (·.1.isSome) = true := by rfl) (hks : (backToKw pos (keywordEach kws X.env)).filterMap (·.1) = ks := by rfl)
    (hdb : (x == ("__debug__" : Str)) = false := by decide) (hpl : (backToKw pos (keywordEach kws X.env)).any (·.1.isNone) = false := by rfl) :
    PE X (.Call (.Name x pp) [] kws pos) (tCallSK (spX K p) gV (WE W') tNil tk) := by
  obtain ⟨rfl, rfl, rfl, rfl, rfl⟩ := hX
  obtain ⟨f, fd, a, b, c⟩ := C.ex
  exact pe_callSGK0 c (hr.mono hk) gd hg b a.kp (hb f fd a) (fun σ => passAt tks σ) hkw hall hks hdb hpl
/-- no error leaves -/
theorem takes_none : Takes X (fun _ _ _ _ => False) := fun _ _ ⟨_, _, _, _, _, _, _, _, _, _, _, _, _, _, _, _, z⟩ => z.elim
end
end Tv

namespace Tv
open PySem PySem.Spec PyProof.Rows L2 RZ StX

/-! ### (.., *xs) -/
section
variable {X : Cx} (K : PySem.W.Frag) {e : Expr} {es : List Expr} {te : TE} {t : TA} {p : Pos}
theorem paStar (he : PE X e te) (hr : PA X es t) (hs : starEach (.Starred e p :: es) X.env = (true, eval e X.env) :: starEach es X.env := by rfl) (h : X.K = K := by exact rfl) : PA X (.Starred e p :: es) (tStar K te t) := h ▸ pa_star he hr hs
theorem bIsX (h : X.K = K := by exact rfl) : CallR X (.builtin "isinstance") (rIsX K) := h ▸ b_isX
theorem peValX {pos : Pos} (he : PE X e te) (hb : attributeBase e "value" X.env (eval e X.env) = eval e X.env := by rfl) (h : X.K = K := by exact rfl) : PE X (.Attribute e "value" pos) (tValX K te) := h ▸ pe_valX he hb
end
section
variable {K : PySem.W.Frag} {ρ : Rho} {U : UU} {te : TE} {t : TA}
theorem ev_starT {P : List W → UU → Prop} (h : EV K te ρ U fun w U1 => ∃ xs, w = .t xs ∧ EA K t ρ U1 fun ws U2 => P (xs.map W.d ++ ws) U2) : EA K (tStar K te t) ρ U P := fun σ F H sl sp Q k =>
  h σ F H sl sp _ fun v w F1 U1 H1 k1 s1 r1 ⟨xs, e, h1⟩ => by
    subst e
    cases r1 with
    | tup q ra =>
      refine ⟨_, _, rfl, .inl (sqt_mono s1.sub q), ?_⟩
      exact h1 σ F1 H1 (sl.mono k1.sub) s1 _ fun vs ws F2 U2 H2 k2 s2 r2 h2 => k _ _ F2 U2 H2 (k1.trans k2) s2 (rpAll_app (dp_rpAll (dpAll_mono k2.sub _ _ ra)) r2) h2
theorem ev_starL {P : List W → UU → Prop} (h : EV K te ρ U fun w U1 => ∃ xs, w = .l xs ∧ EA K t ρ U1 fun ws U2 => P (xs.map W.d ++ ws) U2) : EA K (tStar K te t) ρ U P := fun σ F H sl sp Q k =>
  h σ F H sl sp _ fun v w F1 U1 H1 k1 s1 r1 ⟨xs, e, h1⟩ => by
    subst e
    cases r1 with
    | lst q ra =>
      refine ⟨_, _, rfl, .inr (s1.sub.seq q), ?_⟩
      exact h1 σ F1 H1 (sl.mono k1.sub) s1 _ fun vs ws F2 U2 H2 k2 s2 r2 h2 => k _ _ F2 U2 H2 (k1.trans k2) s2 (rpAll_app (dp_rpAll (dpAll_mono k2.sub _ _ ra)) r2) h2
end

/-! ### [.. for .. in .. for .. in ..] -/
section
variable {K : PySem.W.Frag} {ρ : Rho} {U : UU} {te : TE} {wi wi1 : TI} {g g1 : TG} {tt tt1 : TT} {vs vs1 : List Nat} {P : W → UU → Prop}
/-- a list D that is being made, beside F and U -/
structure Mk1 (K : PySem.W.Frag) (F1 : Hp) (U1 : UU) (H1 : Hp) (D : Addr) (F2 : Hp) (U2 : UU) (H2 : Hp) (acc : List PyData) (vacc : List V) : Prop where
  kp : Kp F1 U1 H1 F2 U2 H2
  f : F2 D = none
  u : U2 D = none
  h : H2 D = some (.lst vacc)
  dp : DpAll K F2 vacc acc
  sp : Sep K F2 U2 H2
theorem Mk1.go {F1 F2 F3 : Hp} {U1 U2 U3 : UU} {H1 H2 H3 : Hp} {D : Addr} {acc : List PyData} {vacc : List V} (m : Mk1 K F1 U1 H1 D F2 U2 H2 acc vacc) (k : Kp F2 U2 H2 F3 U3 H3) (s : Sep K F3 U3 H3) : Mk1 K F1 U1 H1 D F3 U3 H3 acc vacc := by
  obtain ⟨h, f, u⟩ := k.rest D _ m.h m.f m.u
  exact ⟨m.kp.trans k, f, u, h, dpAll_mono k.sub acc vacc m.dp, s⟩
theorem Mk1.add {F1 F2 : Hp} {U1 U2 : UU} {H1 H2 : Hp} {D : Addr} {acc : List PyData} {vacc : List V} {v : V} {x : PyData} (m : Mk1 K F1 U1 H1 D F2 U2 H2 acc vacc) (n : H1 D = none) (r : Dp K F2 v x) : Mk1 K F1 U1 H1 D F2 U2 (upd H2 D (.lst (vacc ++ [v]))) (acc ++ [x]) (vacc ++ [v]) := by
  refine ⟨⟨m.kp.sub, fun b o hb hf hu => ?_⟩, m.f, m.u, upd_same, ?_, ⟨fun b o e => ?_, fun a ws e => ?_⟩⟩
  · obtain ⟨c1, c2, c3⟩ := m.kp.rest b o hb hf hu
    exact ⟨by rw [upd_ne (ne_of_none hb n)]; exact c1, c2, c3⟩
  · refine rpAll_dp ?_
    rw [List.map_append]
    exact rpAll_app (dp_rpAll m.dp) (.cons r .nil)
  · rw [upd_ne (ne_of_none e m.f)]
    exact m.sp.sub b o e
  · have ne : a ≠ D := fun z => by rw [z, m.u] at e; cases e
    obtain ⟨a1, a2⟩ := m.sp.own a ws e
    exact ⟨a1, a2.mono (Same.refl _) (upd_ne ne)⟩
theorem Mk1.new {F1 H1 : Hp} {U1 : UU} {D : Addr} (s : Sep K F1 U1 H1) (n : H1 D = none) : Mk1 K F1 U1 H1 D F1 U1 (upd H1 D (.lst [])) [] [] := by
  obtain ⟨f, u⟩ := s.free n
  refine ⟨⟨Same.refl F1, fun b o hb hf hu => ⟨by rw [upd_ne (ne_of_none hb n)]; exact hb, hf, hu⟩⟩, f, u, upd_same, .nil, ⟨fun b o e => by rw [upd_ne (ne_of_none e f)]; exact s.sub b o e, fun a ws e => ?_⟩⟩
  have ne : a ≠ D := fun z => by rw [z, u] at e; cases e
  obtain ⟨a1, a2⟩ := s.own a ws e
  exact ⟨a1, a2.mono (Same.refl _) (upd_ne ne)⟩
theorem Mk1.fin {F1 F2 : Hp} {U1 U2 : UU} {H1 H2 : Hp} {D : Addr} {acc : List PyData} {vacc : List V} (m : Mk1 K F1 U1 H1 D F2 U2 H2 acc vacc) (n : H1 D = none) :
    ∃ F3, Kp F1 U1 H1 F3 U2 H2 ∧ Sep K F3 U2 H2 ∧ Dp K F3 (.ref D) (.list acc) := by
  have e1 : Same F2 (upd F2 D (.lst vacc)) := fun b o e => by rw [upd_ne (ne_of_none e m.f)]; exact e
  refine ⟨upd F2 D (.lst vacc), ⟨m.kp.sub.trans e1, fun b o hb hf hu => ?_⟩, ⟨fun b o e => ?_, fun a ws e => ?_⟩, .lst (SqL.of upd_same) (dpAll_mono e1 acc vacc m.dp)⟩
  · obtain ⟨c1, c2, c3⟩ := m.kp.rest b o hb hf hu
    exact ⟨c1, by rw [upd_ne (ne_of_none hb n)]; exact c2, c3⟩
  · by_cases z : b = D
    · rw [z, upd_same] at e
      rw [z, ← e]
      exact m.h
    · rw [upd_ne z] at e
      exact m.sp.sub b o e
  · have ne : a ≠ D := fun z => by rw [z, m.u] at e; cases e
    obtain ⟨a1, a2⟩ := m.sp.own a ws e
    exact ⟨by rw [upd_ne ne]; exact a1, a2.mono e1 rfl⟩
theorem own_at {g : TG} {vs : List Nat} (hg : Own g vs) {x : V} {σ : L2.St} {H : Hp} {R : L2.St → Hp → Prop} (q : g x (wipe σ vs) H R) : g x (wipe σ vs) H fun σ2 H2 => wipe σ2 vs = wipe σ vs ∧ R σ2 H2 := by
  have z := hg.own x (wipe σ vs) H R q
  rw [wipe_idem] at z
  exact z

theorem ev_lc2 (hg : Own g vs) (hg1 : Own g1 vs1) (h : IW K wi ρ U fun n item U1 => ∃ Iv : Nat → List PyData → UU → Prop, Iv 0 [] U1 ∧
      (∀ i acc U, i < n → Iv i acc U → GW K g (.d (item i)) (wipeR ρ vs) U fun ρ2 U2 => ET K tt ρ2 U2 fun b U3 =>
        (b = true → IW K wi1 ρ2 U3 fun n1 item1 U4 => ∃ Jv : Nat → List PyData → UU → Prop, Jv 0 acc U4 ∧
          (∀ j acc U, j < n1 → Jv j acc U → GW K g1 (.d (item1 j)) (wipeR ρ2 vs1) U fun ρ3 U5 => ET K tt1 ρ3 U5 fun b U6 =>
            (b = true → EV K te ρ3 U6 fun w U7 => ∃ x, w = .d x ∧ acc.length < sizeLine ∧ Jv (j + 1) (acc ++ [x]) U7) ∧ (b = false → Jv (j + 1) acc U6)) ∧
          ∀ acc U, Jv n1 acc U → Iv (i + 1) acc U) ∧ (b = false → Iv (i + 1) acc U3)) ∧
      ∀ acc U, Iv n acc U → P (.l acc) U) : EV K (tLc2 wi g tt wi1 g1 tt1 te vs vs1) ρ U P := fun σ F H sl sp Q k =>
  h σ F H sl sp _ fun J F1 U1 H1 n item k1 s1 wk ⟨Iv, h0, hs, hd⟩ => fun D hD => by
    refine ⟨fun i m H2 => m = n - i ∧ i ≤ n ∧ ∃ F2 U2 acc vacc, Mk1 K F1 U1 H1 D F2 U2 H2 acc vacc ∧ Iv i acc U2, ⟨n, by simp, Nat.zero_le _, F1, U1, [], [], Mk1.new s1 hD, h0⟩, ?_⟩
    rintro i m H2 ⟨rfl, hi, F2, U2, acc, vacc, mk, inv⟩
    have sub : Same F1 H2 := mk.kp.sub.trans mk.sp.sub
    by_cases hlt : i < n
    · refine .inr ⟨wk.go i H2 hlt sub, fun H' => ∃ F' U' acc' vacc', Mk1 K F1 U1 H1 D F' U' H' acc' vacc' ∧ Iv (i + 1) acc' U', fun H' ⟨F', U', acc', vacc', a, b⟩ => ⟨n - (i + 1), by omega, rfl, hlt, F', U', acc', vacc', a, b⟩, fun x H3 y => ?_⟩
      refine own_at hg ?_
      obtain ⟨F3, k3, s3, d3⟩ := wk.yld i F2 U2 H2 x H3 hlt mk.kp.sub mk.sp y
      have mk3 := mk.go k3 s3
      have sl3 : Sl K F3 (wipe σ vs) (wipeR ρ vs) := (sl_wipe (sl.mono k1.sub) vs).mono mk3.kp.sub
      refine hs i acc U2 hlt inv (wipe σ vs) F3 H3 x sl3 s3 d3 _ fun σ4 F4 H4 ρ4 U4 k4 sl4 s4 q => ?_
      have mk4 := mk3.go k4 s4
      refine q σ4 F4 H4 sl4 s4 _ fun b F5 U5 H5 k5 s5 ⟨qt, qf⟩ => ?_
      have mk5 := mk4.go k5 s5
      have sl5 := sl4.mono k5.sub
      cases b with
      | false =>
        rw [if_neg Bool.false_ne_true]
        exact ⟨F5, U5, acc, vacc, mk5, qf rfl⟩
      | true =>
        rw [if_pos rfl]
        refine qt rfl σ4 F5 H5 sl5 s5 _ fun J1 F6 U6 H6 n1 item1 k6 s6 wk1 ⟨Jv, j0, js, jd⟩ => ?_
        have mk6 := mk5.go k6 s6
        have sl6 := sl5.mono k6.sub
        refine ⟨fun j m H2 => m = n1 - j ∧ j ≤ n1 ∧ ∃ F2 U2 acc vacc, Same F6 F2 ∧ Mk1 K F1 U1 H1 D F2 U2 H2 acc vacc ∧ Jv j acc U2, ⟨n1, by simp, Nat.zero_le _, F6, U6, acc, vacc, Same.refl F6, mk6, j0⟩, ?_⟩
        rintro j m H7 ⟨rfl, hj, F7, U7, acc7, vacc7, sm7, mk7, inv7⟩
        have sub7 : Same F6 H7 := sm7.trans mk7.sp.sub
        by_cases hlt1 : j < n1
        · refine .inr ⟨wk1.go j H7 hlt1 sub7, fun H' => ∃ F' U' acc' vacc', Same F6 F' ∧ Mk1 K F1 U1 H1 D F' U' H' acc' vacc' ∧ Jv (j + 1) acc' U', fun H' ⟨F', U', acc', vacc', a, b, c⟩ => ⟨n1 - (j + 1), by omega, rfl, hlt1, F', U', acc', vacc', a, b, c⟩, fun x8 H8 y8 => ?_⟩
          refine own_at hg1 ?_
          obtain ⟨F8, k8, s8, d8⟩ := wk1.yld j F7 U7 H7 x8 H8 hlt1 sm7 mk7.sp y8
          have mk8 := mk7.go k8 s8
          have sm8 := sm7.trans k8.sub
          have sl8 : Sl K F8 (wipe σ4 vs1) (wipeR ρ4 vs1) := (sl_wipe sl6 vs1).mono sm8
          refine js j acc7 U7 hlt1 inv7 (wipe σ4 vs1) F8 H8 x8 sl8 s8 d8 _ fun σ9 F9 H9 ρ9 U9 k9 sl9 s9 q9 => ?_
          have mk9 := mk8.go k9 s9
          refine q9 σ9 F9 H9 sl9 s9 _ fun b F10 U10 H10 k10 s10 ⟨qt1, qf1⟩ => ?_
          have mk10 := mk9.go k10 s10
          have sm10 := (sm8.trans k9.sub).trans k10.sub
          cases b with
          | false =>
            rw [if_neg Bool.false_ne_true]
            exact ⟨F10, U10, acc7, vacc7, sm10, mk10, qf1 rfl⟩
          | true =>
            rw [if_pos rfl]
            refine qt1 rfl σ9 F10 H10 (sl9.mono k10.sub) s10 _ fun v w F11 U11 H11 k11 s11 r11 ⟨x11, ew, hz, inv11⟩ => ?_
            subst ew
            have mk11 := mk10.go k11 s11
            exact ⟨vacc7, mk11.h, by rw [dpAll_len mk11.dp]; exact hz, F11, U11, acc7 ++ [x11], vacc7 ++ [v], sm10.trans k11.sub, mk11.add hD r11, inv11⟩
        · obtain rfl : j = n1 := by omega
          exact .inl ⟨wk1.stop H7 sub7, F7, U7, acc7, vacc7, mk7, jd acc7 U7 inv7⟩
    · obtain rfl : i = n := by omega
      obtain ⟨F3, k3, s3, d3⟩ := mk.fin hD
      exact .inl ⟨wk.stop H2 sub, k (.ref D) (.l acc) F3 U2 H2 (k1.trans k3) s3 d3 (hd acc U2 inv)⟩
end

/-! ### an error's class -/
structure ErrAt (K : PySem.W.Frag) (mg : Str → Option Value) (nm : Str) (C : Addr) : Prop where
  low : ∃ fI, PySem.LowX.LowTxt K mg nm C fI
  c : ErrC K C
theorem ErrAt.mg {K : PySem.W.Frag} {mg : Str → Option Value} {nm : Str} {C : Addr} (e : ErrAt K mg nm C) : mg nm = some (.ref C) := by
  obtain ⟨_, t⟩ := e.low
  exact t.gC
theorem ErrAt.nv {K : PySem.W.Frag} {mg : Str → Option Value} {nm : Str} {C : Addr} (e : ErrAt K mg nm C) : PySem.W.findIn K (.ref C) "value" = some none := by
  obtain ⟨_, t⟩ := e.low
  exact t.noN
theorem kit_self {K : PySem.W.Frag} {C : Addr} : PySem.W.kitOne K (.ref C) (.ref C) = some true := by
  unfold PySem.W.kitOne
  rw [if_pos (beq_self_eq_true _)]

theorem exm_sub {K : PySem.W.Frag} {c : Value} {D : Addr} (h1 : PySem.W.subIn K (.ref D) (.type "BaseException") = some true) (h2 : PySem.W.isClsIn K D = true) (h3 : PySem.W.typeIn K (.ref D) = some (.type "type")) (h4 : PySem.W.subIn K c (.ref D) = some true) :
    PySem.W.exmOne K c (.ref D) = some true := by
  have e1 : (PySem.W.subIn K (.ref D) (.type "BaseException") == some true) = true := by rw [h1] <;> rfl
  have e2 : ((PySem.W.clsIn K D).isSome && PySem.W.typeIn K (.ref D) == some (.type "type")) = true := by
    have h2' : (PySem.W.clsIn K D).isSome = true := h2
    rw [h2', h3] <;> rfl
  show (if (PySem.W.subIn K (.ref D) (.type "BaseException") == some true) = true then (if ((PySem.W.clsIn K D).isSome && PySem.W.typeIn K (.ref D) == some (.type "type")) = true then PySem.W.subIn K c (.ref D) else none) else none) = some true
  rw [if_pos e1, if_pos e2]
  exact h4
theorem err_mk {K : PySem.W.Frag} {h : Heap} {mg : Str → Option Value} {nmC : Str} {C C0 f1 : Addr} (X : K.In h) (G : h.Ns mainGlobals mg)
    {nm q : Str} {N : Addr} {bs : List Value} {sn : List Str} {sub : List Value} {ab : Bool} {col : Option Bool} {dd : Option Addr} {m0 m1 m2 m3 m5 : Option Value}
    {od1 an1 : Option Addr} {sl1 : Array (Option Value)} {oc1 dc1 pm1 cd1 ct1 : Value} {p1 p2 q1 q2 q3 q4 : Pos}
    (aC : PySem.W.nsIn K mainGlobals nmC = some (some (.ref C)))
    (xL : K.lookup C = some (excClassObj nm q C N bs [.ref C0, .type "ValueError", .type "Exception", .type "BaseException", .type "object"] true sn sub ab col dd m0 m1 m2 m3 m5 "ValueError.__new__"))
    (sa : PySem.W.findIn K (.ref C) "__setattr__" = some (some (.builtin "object.__setattr__"))) (ga : PySem.W.findIn K (.ref C) "__getattribute__" = some (some (.builtin "BaseException.__getattribute__"))) (gg : PySem.W.findIn K (.ref C) "__getattr__" = some none) (nb : PySem.W.findIn K (.ref C) "value" = some none)
    (a1 : PySem.W.findIn K (.ref C) "__init__" = some (some (.ref f1))) (t1 : PySem.W.typeIn K (.ref f1) = some (.type "function"))
    (l1 : K.lookup f1 = some ⟨oc1, od1, .func (PySem.W.fnOf "__init__" "OverError.__init__" (PySem.LowX.iA p1 p2) (PySem.LowX.iB q1 q2 q3 q4) PySem.LowX.iS .none .none dc1 pm1 an1 cd1 ct1), sl1⟩) (c1 : PySem.W.codeIn K cd1 "OverError.__init__" = true)
    (kC : PySem.W.keepIn K (.ref C) = true) (eC : PySem.W.subIn K (.ref C) (.type "BaseException") = some true) (tC : PySem.W.typeIn K (.ref C) = some (.type "type")) (hC : PySem.W.hasDictIn K C = true) (iC : PySem.W.isClsIn K C = true) (sC : PySem.W.subIn K (.ref C) (.ref C) = some true)
    (kA : PySem.W.findIn K (.ref C) "__class__" = some (some (.builtin "object.__class__"))) (kN : PySem.W.specialIn K (.builtin "object.__class__") "__get__" = some (some (.builtin "getset_descriptor.__get__")))
    (kT : PySem.W.takesIn K (.builtin "object.__class__") = some true) (kM : PySem.W.mroIn K C (.type "object") = some true) : ∃ C, ErrAt K mg nmC C :=
  ⟨C, ⟨f1, { gC := PySem.W.mg_of X G aC, cls := ⟨nm, q, N, bs, _, sn, sub, ab, col, dd, m0, m1, m2, m3, m5, xL, by rfl⟩, sa := sa, ga := ga, gg := gg, noN := nb, iC := a1, tC := t1, kC := kC, exC := eC, tyC := tC, hdC := hC, te := exm_self (B := C) eC iC tC sC, fn := ⟨_, _, _, _, _, _, _, _, _, _, _, _, _, _, l1, c1⟩ }⟩, ⟨iC, ga, gg, eC, hC, kA, kN, kT, kM⟩⟩
theorem err_mkD {K : PySem.W.Frag} {h : Heap} {mg : Str → Option Value} {nmC : Str} {C C0 f1 D : Addr} {nmD : Str} (X : K.In h) (G : h.Ns mainGlobals mg)
    {nm q : Str} {N : Addr} {bs : List Value} {sn : List Str} {sub : List Value} {ab : Bool} {col : Option Bool} {dd : Option Addr} {m0 m1 m2 m3 m5 : Option Value}
    {od1 an1 : Option Addr} {sl1 : Array (Option Value)} {oc1 dc1 pm1 cd1 ct1 : Value} {p1 p2 q1 q2 q3 q4 : Pos}
    (aC : PySem.W.nsIn K mainGlobals nmC = some (some (.ref C)))
    (xL : K.lookup C = some (excClassObj nm q C N bs [.ref C0, .type "ValueError", .type "Exception", .type "BaseException", .type "object"] true sn sub ab col dd m0 m1 m2 m3 m5 "ValueError.__new__"))
    (sa : PySem.W.findIn K (.ref C) "__setattr__" = some (some (.builtin "object.__setattr__"))) (ga : PySem.W.findIn K (.ref C) "__getattribute__" = some (some (.builtin "BaseException.__getattribute__"))) (gg : PySem.W.findIn K (.ref C) "__getattr__" = some none) (nb : PySem.W.findIn K (.ref C) "value" = some none)
    (a1 : PySem.W.findIn K (.ref C) "__init__" = some (some (.ref f1))) (t1 : PySem.W.typeIn K (.ref f1) = some (.type "function"))
    (l1 : K.lookup f1 = some ⟨oc1, od1, .func (PySem.W.fnOf "__init__" "OverError.__init__" (PySem.LowX.iA p1 p2) (PySem.LowX.iB q1 q2 q3 q4) PySem.LowX.iS .none .none dc1 pm1 an1 cd1 ct1), sl1⟩) (c1 : PySem.W.codeIn K cd1 "OverError.__init__" = true)
    (kC : PySem.W.keepIn K (.ref C) = true) (eC : PySem.W.subIn K (.ref C) (.type "BaseException") = some true) (tC : PySem.W.typeIn K (.ref C) = some (.type "type")) (hC : PySem.W.hasDictIn K C = true) (iC : PySem.W.isClsIn K C = true) (sC : PySem.W.subIn K (.ref C) (.ref C) = some true)
    (kA : PySem.W.findIn K (.ref C) "__class__" = some (some (.builtin "object.__class__"))) (kN : PySem.W.specialIn K (.builtin "object.__class__") "__get__" = some (some (.builtin "getset_descriptor.__get__")))
    (kT : PySem.W.takesIn K (.builtin "object.__class__") = some true) (kM : PySem.W.mroIn K C (.type "object") = some true)
    (aD : PySem.W.nsIn K mainGlobals nmD = some (some (.ref D))) (eD : PySem.W.subIn K (.ref D) (.type "BaseException") = some true) (tD : PySem.W.typeIn K (.ref D) = some (.type "type")) (iD : PySem.W.isClsIn K D = true) (sD : PySem.W.subIn K (.ref C) (.ref D) = some true) :
    ∃ C, ErrAt K mg nmC C ∧ ∃ D, mg nmD = some (.ref D) ∧ PySem.W.exmOne K (.ref C) (.ref D) = some true :=
  ⟨C, ⟨⟨f1, { gC := PySem.W.mg_of X G aC, cls := ⟨nm, q, N, bs, _, sn, sub, ab, col, dd, m0, m1, m2, m3, m5, xL, by rfl⟩, sa := sa, ga := ga, gg := gg, noN := nb, iC := a1, tC := t1, kC := kC, exC := eC, tyC := tC, hdC := hC, te := exm_self (B := C) eC iC tC sC, fn := ⟨_, _, _, _, _, _, _, _, _, _, _, _, _, _, l1, c1⟩ }⟩, ⟨iC, ga, gg, eC, hC, kA, kN, kT, kM⟩⟩, D, PySem.W.mg_of X G aD, exm_sub eD iD tD sD⟩
section
variable {K : PySem.W.Frag} {U : UU} {P : W → UU → Prop}
theorem rl_maxL {ns : List Int} (h : 0 < ns.length) (q : ∀ m, m ∈ ns → (∀ y ∈ ns, y ≤ m) → P (.i m) U) : RLW K (rMax K) [.d (.list (ns.map .int))] U P := fun vs F H sp r Q k => by
  cases r with
  | cons a r =>
    cases r
    cases a with
    | lst ha ra =>
      obtain rfl := dp_ints ra
      exact ⟨_, ns, rfl, sp.sub.seq ha, h, fun m h1 h2 => k _ (.i m) F U H .refl sp (Dp.int m) (q m h1 h2)⟩
end
section
variable {K : PySem.W.Frag} {ρ : Rho} {U : UU} {P : W → UU → Prop} {te tl : TE} {tt : TT} {g : TG} {vs : List Nat}
theorem ev_ref {a : Addr} (q : P (.r a) U) : EV K (tC (.ref a)) ρ U P := fun σ F H _ sp Q k => k _ (.r a) F U H .refl sp rfl q
/-- [e for x in xs if f] -/
theorem ev_lcFil {α : Type} {xs : List α} {h e : α → PyData} {f : α → Bool} (hg : Own g vs) (a : EV K tl ρ U fun w U1 => w = .l (xs.map h) ∧ xs.length < sizeLine ∧
      (∀ (i : Nat) x, xs[i]? = some x → GW K g (.d (h x)) (wipeR ρ vs) U1 fun ρ2 U2 => ET K tt ρ2 U2 fun b U3 => b = f x ∧ U3 = U1 ∧ (f x = true → EV K te ρ2 U3 fun w U4 => w = .d (e x) ∧ U4 = U1)) ∧ P (.l ((xs.filter f).map e)) U1) :
    EV K (tLc (iList K tl) g tt te vs) ρ U P := by
  refine ev_lc hg (iw_list (ev_mono (fun w U1 z => ?_) a))
  obtain ⟨ew, hz, ht, q⟩ := z
  refine ⟨xs.map h, ew, fun i acc V => V = U1 ∧ acc = ((xs.take i).filter f).map e, ⟨rfl, rfl⟩, ?_, ?_⟩
  · rintro i acc V hi hl ⟨ev0, rfl⟩
    subst ev0
    have hi' : i < xs.length := by simpa using hi
    have hx : xs[i]? = some xs[i] := by simp [hi']
    have e0 : (xs.map h).getD i .none = h xs[i] := by simp [List.getD_eq_getElem?_getD, hi']
    show GW K g (.d ((xs.map h).getD i .none)) _ _ _
    rw [e0]
    have st : ((xs.take (i + 1)).filter f).map e = ((xs.take i).filter f).map e ++ (if f xs[i] = true then [e xs[i]] else []) := by
      rw [List.take_add_one, hx, List.filter_append, List.map_append]
      congr 1
      cases hf : f xs[i] <;> simp [hf]
    refine gw_mono (fun r u z => et_mono (fun b u z => ?_) z) (ht i _ hx)
    obtain ⟨eb, eu, z⟩ := z
    subst eb eu
    refine ⟨fun hf => ev_mono (fun w u z2 => ?_) (z hf), fun hf => ⟨rfl, ?_⟩⟩
    · obtain ⟨ew2, eu2⟩ := z2
      refine ⟨_, ew2, ?_, eu2, ?_⟩
      · have := List.length_filter_le f (xs.take i)
        rw [List.length_take] at this
        rw [List.length_map]
        omega
      · rw [st, if_pos hf]
    · rw [st, if_neg (by rw [hf]; exact Bool.false_ne_true), List.append_nil]
  · rintro acc V hl ⟨ev0, rfl⟩
    subst ev0
    rw [List.length_map, List.take_length]
    exact q
end
end Tv

namespace Tv
open PySem PySem.Spec PyProof.Rows L2 RZ StX

/-! ### instances of the program's own classes, at the layer below -/
section
variable {X : Cx} {CT : CXT} {k : Nat} {f C : Addr} {fd : FuncData} {ps : List Str} {sp : Sp} {E : XK} {x m : Str} {p pos apos : Pos} {e o : Expr} {es : List Expr} {t ta : TA} {to : TE}
theorem run_makeG {pins : List (Addr × Obj)} {σ : L2.St} {H : Hp} {s : Shared} {Q : VK} {us : List Value} {vs : List V} (M : Mk X.K C f) (F : FnG X.prog X.w X.K X.mg X.base CT k f fd ps sp) (hr : Room (k + 1) X.A) (gd : X.A.guards = some []) (hb : Binds X.K fd ps [])
    (hx : Passes CT X E) (I : Inv X pins σ H s) (r : Vals vs us)
    (h : ∀ x dx, H x = none → H dx = none → dx ≠ x → sp (.ref x :: vs) (upd (upd H dx (.own x)) x (.ins C dx [])) (fun v H2 => v = .non ∧ Q (.ref x) H2) E) :
    wpAny (model X.prog X.w) X.A (call (.ref C) us) (EP X pins σ Q) X.xe s := by
  have hq := h (s.heap.objs.size + 1) s.heap.objs.size (I.hok.fresh (Nat.le_succ _)) (I.hok.fresh (Nat.le_refl _)) (Nat.ne_of_lt (Nat.lt_succ_self _))
  have J := Inv.made (C := C) I
  have rv : Vals (V.ref (s.heap.objs.size + 1) :: vs) (Value.ref (s.heap.objs.size + 1) :: us) := .cons rfl r
  have hl : (Value.ref (s.heap.objs.size + 1) :: us ++ []).length = ps.length := by
    rw [List.append_nil, ← rv.length, F.len _ _ _ _ hq]
  have b := hb _ (Value.ref (s.heap.objs.size + 1) :: us) J.kIn hl
  rw [List.append_nil] at b
  refine wpAny_call (make_map (f := f) I.kIn M.makes M.init (beq_iff_eq.mp M.fn) (codeAny_mono (F.run (hr.make C us []) (by exact gd) (J.env0.make C us []) b rv hq) fun r s' z => ?_))
  rcases r with err | fl
  · exact hx pins σ _ _ err s' J z
  · cases fl
    case ret u =>
      obtain ⟨v, H', J', rv', ev, q⟩ := J.after z
      subst ev
      exact ⟨rv', ⟨V.ref (s.heap.objs.size + 1), H', J', rfl, q⟩⟩
    all_goals exact z.elim
/-- C(e, ..) -/
def tMakeG (C : Addr) (sp : Sp) (E : XK) (t : TA) : TE := fun σ H Q => t σ H fun vs H1 => ∀ x dx, H1 x = none → H1 dx = none → dx ≠ x → sp (.ref x :: vs) (upd (upd H1 dx (.own x)) x (.ins C dx [])) (fun v H2 => v = .non ∧ Q (.ref x) H2) E
theorem pe_makeG (M : Mk X.K C f) (F : FnG X.prog X.w X.K X.mg X.base CT k f fd ps sp) (hr : Room (k + 1) X.A) (gd : X.A.guards = some []) (hg : Gl X x) (hm : X.mg x = some (.ref C)) (hb : Binds X.K fd ps []) (hx : Passes CT X E)
    (ha : PA X (e :: es) t) (hdb : (x == ("__debug__" : Str)) = false := by decide) (he : starEach (e :: es) X.env = (false, eval e X.env) :: starEach es X.env := by rfl) (hpl : (backTo pos (starEach es X.env)).any (·.1) = false := by rfl) :
    PE X (.Call (.Name x p) (e :: es) [] pos) (tMakeG C sp E t) := by
  constructor
  intro pins s σ H Q I h
  refine wpAny_Call_Name_kw (ld_glob I hg hm ?_ hdb)
  refine PySem.W.callWith_K (h₀ := X.base) I.ok.mod.kin M.kp (thn (ha.run pos pins s σ H _ I h) ?_) he hpl
  rintro us s1 ⟨vs, H1, I1, r, q⟩
  exact ⟨I1.kIn, run_makeG M F hr gd hb hx I1 r q⟩
/-- x in o, o an instance of a class with an own __contains__ -/
def rInO (C : Addr) (sp : Sp) (E : XK) (neg : Bool) : R2 := fun x y H Q => ∃ a dx fs, y = .ref a ∧ H a = some (.ins C dx fs) ∧ sp [y, x] H (fun v H' => ∃ b, v = .bl b ∧ Q (.bl (if neg then !b else b)) H') E
theorem in_own {pins : List (Addr × Obj)} {σ : L2.St} {H : Hp} {s : Shared} {Q : VK} {a dx : Addr} {fs : List (Str × V)} {x : V} {v : Value} {neg : Bool} (hs : PySem.W.findIn X.K (.ref C) "__contains__" = some (some (.ref f))) (hf : PySem.W.isFn X.K (.ref f) = true)
    (F : FnG X.prog X.w X.K X.mg X.base CT k f fd ps sp) (hr : Room k X.A) (gd : X.A.guards = some []) (hb : Binds X.K fd ps []) (hx : Passes CT X E) (I : Inv X pins σ H s) (rx : RelV x v) (ha : H a = some (.ins C dx fs))
    (q : sp [.ref a, x] H (fun v H' => ∃ b, v = .bl b ∧ Q (.bl (if neg then !b else b)) H') E) :
    wpAny (model X.prog X.w) X.A (compareOp (if neg then .NotIn else .In) v (.ref a)) (EP X pins σ Q) X.xe s := by
  have ob : ObjOk X.prog X.w H s.heap a (.ins C dx fs) := I.hok a _ ha
  obtain ⟨_, _, ne, ho, mA, hns, _⟩ := ob
  obtain ⟨od, J, _⟩ := ObjM.look (mA := mA) ⟨ho, hns, ne⟩
  obtain ⟨m, hF⟩ := I.fr
  have rv : Vals [V.ref a, x] [Value.ref a, v] := .cons rfl (.cons rx .nil)
  have hl : ([Value.ref a, v] ++ []).length = ps.length := by
    rw [List.append_nil, ← rv.length, F.len _ _ _ _ q]
  have b := hb s [Value.ref a, v] I.kIn hl
  rw [List.append_nil] at b
  have run : wpAny (model X.prog X.w) X.A (call (.ref f) [.ref a, v]) (fun r s' => ∃ b, r = .bool b ∧ EP X pins σ Q (.bool (if neg then !b else b)) s') X.xe s := by
    refine wpAny_call (codeAny_mono (F.run hr gd I.env0 b rv q) fun r s' z => ?_)
    rcases r with err | fl
    · exact hx pins σ _ _ err s' I z
    · cases fl
      case ret u =>
        obtain ⟨v', H', I', rv', b, ev, q'⟩ := I.after z
        subst ev
        obtain rfl : u = Value.bool b := rv'
        exact ⟨b, rfl, .bl _, H', I', rfl, q'⟩
      all_goals exact z.elim
  cases neg with
  | false =>
    refine PySem.W.in_K hF I.ok.mod.kin J hs hf (wpAny_mono run (fun r s' z => ?_) fun _ _ z => z)
    obtain ⟨b, rfl, z⟩ := z
    exact wpAny_pure z
  | true =>
    refine PySem.W.notIn_K hF I.ok.mod.kin J hs hf (wpAny_mono run (fun r s' z => ?_) fun _ _ z => z)
    obtain ⟨b, rfl, z⟩ := z
    exact wpAny_pure z
theorem op_inO (hs : PySem.W.findIn X.K (.ref C) "__contains__" = some (some (.ref f))) (hf : PySem.W.isFn X.K (.ref f) = true) (F : FnG X.prog X.w X.K X.mg X.base CT k f fd ps sp) (hr : Room k X.A) (gd : X.A.guards = some []) (hb : Binds X.K fd ps []) (hx : Passes CT X E) :
    OpR X (compareOp .In) (rInO C sp E false) := by
  intro pins s σ H x y v u Q I rx ry h
  obtain ⟨a, dx, fs, rfl, ha, q⟩ := h
  obtain rfl : u = Value.ref a := ry
  exact in_own (neg := false) hs hf F hr gd hb hx I rx ha q
theorem op_notInO (hs : PySem.W.findIn X.K (.ref C) "__contains__" = some (some (.ref f))) (hf : PySem.W.isFn X.K (.ref f) = true) (F : FnG X.prog X.w X.K X.mg X.base CT k f fd ps sp) (hr : Room k X.A) (gd : X.A.guards = some []) (hb : Binds X.K fd ps []) (hx : Passes CT X E) :
    OpR X (compareOp .NotIn) (rInO C sp E true) := by
  intro pins s σ H x y v u Q I rx ry h
  obtain ⟨a, dx, fs, rfl, ha, q⟩ := h
  obtain rfl : u = Value.ref a := ry
  exact in_own (neg := true) hs hf F hr gd hb hx I rx ha q
end

/-! ### a method of a class, as callers see it -/
structure MAt (K : PySem.W.Frag) (C : Addr) (st : Stmt) (x qual : Str) : Prop where
  ex : ∃ f fd, Fun K x qual st f fd ∧ PySem.W.findIn K (.ref C) x = some (some (.ref f)) ∧ PySem.W.isFn K (.ref f) = true
structure MCal (P : Program) (w : World) (K : PySem.W.Frag) (mg : Str → Option Value) (base : Heap) (C : Addr) (st : Stmt) (x qual : Str) (k : Nat) (ps : List Str) (p : PT') : Prop where
  ex : ∃ f fd, Fun K x qual st f fd ∧ PySem.W.findIn K (.ref C) x = some (some (.ref f)) ∧ PySem.W.isFn K (.ref f) = true ∧ FnG P w K mg base CX0 k f fd ps (spW K p)
  bind : ∀ (kV doc pm : Value) (an : Option Addr) (cdv ct : Value) (us : List Value), us.length = ps.length →
    bindArgs (PySem.W.fnOf x qual (defArgs st) (defBody st) (defScope st) .none kV doc pm an cdv ct) ⟨us, []⟩ = pure (ps.zip us)
section
variable {Pg : Program} {w : World} {K : PySem.W.Frag} {mg : Str → Option Value} {base : Heap} {C : Addr} {st : Stmt} {x qual : Str} {k : Nat} {ps N : List Str} {p : PT'}
theorem mcalW (T : MAt K C st x qual) (S : FnScope N ps (defScope st))
    (hb : ∀ (kV doc pm : Value) (an : Option Addr) (cdv ct : Value) (us : List Value), us.length = ps.length →
      bindArgs (PySem.W.fnOf x qual (defArgs st) (defBody st) (defScope st) .none kV doc pm an cdv ct) ⟨us, []⟩ = pure (ps.zip us))
    (hl : ∀ ws U P, p ws U P → ws.length = ps.length)
    (go : ∀ (f : Addr) (cdv : Value) (A : Around) (outer : List Env) (s : Shared) (H : Hp) (E : XK), Room k (A.deeper (envOfC qual (defScope st) s.heap.objs.size f cdv)) →
      (A.deeper (envOfC qual (defScope st) s.heap.objs.size f cdv)).guards = some [] →
      ∃ t, PSs (cxOf CX0 Pg w K mg base N qual (defScope st) f cdv A outer s H E).nox (defBody st) t ∧ ∀ ws U P, p ws U P → SW K t (startR N ws) U (retE P)) :
    MCal Pg w K mg base C st x qual (k + 1) ps p := by
  obtain ⟨f, fd, a, b, c⟩ := T.ex
  exact ⟨⟨f, fd, a, b, c, okW a S hl (go f)⟩, hb⟩
/-- what is said of a class -/
structure ClsAt (K : PySem.W.Frag) (mg : Str → Option Value) (nm : Str) (C : Addr) : Prop where
  mg : mg nm = some (.ref C)
  c : Cls K C
  makes : PySem.W.makesIn K C = true
  kp : PySem.W.keepIn K (.ref C) = true
end
section
variable {X : Cx} {Pg : Program} {w : World} {K : PySem.W.Frag} {mg : Str → Option Value} {base : Heap} {C : Addr} {st : Stmt} {x nm qual : Str} {k j : Nat} {ps : List Str} {p : PT'} {e : Expr} {es : List Expr} {t : TA} {pp pos : Pos}
theorem pe_mk1 (c : ClsAt K mg nm C) (M : MCal Pg w K mg base C st "__init__" qual k ps p) (hr : Room j X.A) (gd : X.A.guards = some []) (hg : Gl X nm) (ha : PA X (e :: es) t) (hk : k + 1 ≤ j := by decide) (hX : Here X Pg w K mg base := by exact ⟨rfl, rfl, rfl, rfl, rfl⟩)
    (hdb : (nm == ("__debug__" : Str)) = false := by decide) (he : starEach (e :: es) X.env = (false, eval e X.env) :: starEach es X.env := by rfl) (hpl : (backTo pos (starEach es X.env)).any (·.1) = false := by rfl) :
    PE X (.Call (.Name nm pp) (e :: es) [] pos) (tMakeG C (spW K p) E0 t) := by
  obtain ⟨rfl, rfl, rfl, rfl, rfl⟩ := hX
  obtain ⟨f, fd, a, b, b2, c2⟩ := M.ex
  exact pe_makeG ⟨c.makes, b, b2, c.kp⟩ c2 (hr.mono hk) gd hg c.mg (a.binds M.bind) pass0 ha hdb he hpl
theorem opInO (M : MCal Pg w K mg base C st "__contains__" qual k ps p) (hr : Room j X.A) (gd : X.A.guards = some []) (hk : k ≤ j := by decide) (hX : Here X Pg w K mg base := by exact ⟨rfl, rfl, rfl, rfl, rfl⟩) : OpR X (compareOp .In) (rInO C (spW K p) E0 false) := by
  obtain ⟨rfl, rfl, rfl, rfl, rfl⟩ := hX
  obtain ⟨f, fd, a, b, b2, c2⟩ := M.ex
  exact op_inO b b2 c2 (hr.mono hk) gd (a.binds M.bind) pass0
theorem opNotInO (M : MCal Pg w K mg base C st "__contains__" qual k ps p) (hr : Room j X.A) (gd : X.A.guards = some []) (hk : k ≤ j := by decide) (hX : Here X Pg w K mg base := by exact ⟨rfl, rfl, rfl, rfl, rfl⟩) : OpR X (compareOp .NotIn) (rInO C (spW K p) E0 true) := by
  obtain ⟨rfl, rfl, rfl, rfl, rfl⟩ := hX
  obtain ⟨f, fd, a, b, b2, c2⟩ := M.ex
  exact op_notInO b b2 c2 (hr.mono hk) gd (a.binds M.bind) pass0
theorem peFld (K : PySem.W.Frag) {o : Expr} {f : Str} {to : TE} (he : PE X o to) (hb : attributeBase o f X.env (eval o X.env) = eval o X.env := by rfl) (h : X.K = K := by exact rfl) : PE X (.Attribute o f pos) (tFld K to f) := h ▸ pe_fld he hb
theorem psFld (K : PySem.W.Frag) {o value : Expr} {f : Str} {to tv : TE} {pos' : Pos} (ha : PE X o to) (hv : PE X value tv) (hs : swapsWith value (some (.Attribute o f pos')) pos.line X.env = pure false) (h : X.K = K := by exact rfl) : PS X (.Assign [.Attribute o f pos'] value pos) (sFld K to tv f) := h ▸ ps_fld ha hv hs
end

/-! ### instances, as things -/
section
variable (K : PySem.W.Frag)
/-- an instance that never changes -/
def isOb (C : Addr) (fs : List (Str × W)) : Hp → V → Prop := fun F v => ∃ a dx ps, v = .ref a ∧ F a = some (.ins C dx ps) ∧ RpK K F ps fs
abbrev W.ob (C : Addr) (fs : List (Str × W)) : W := .x (isOb K C fs)
/-- x is an instance of the class at C with these fields -/
def ObIs (U : UU) (x : W) (C : Addr) (fs : List (Str × W)) : Prop := (∃ a dx, x = .r a ∧ U a = some (.o C dx fs)) ∨ x = .ob K C fs
end
section
variable {K : PySem.W.Frag} {ρ : Rho} {U : UU} {P : W → UU → Prop} {F H : Hp} {te tv : TE} {t : TA} {C : Addr} {fs : List (Str × W)} {E : EndW}
theorem ObIs.at {x : W} {v : V} (h : ObIs K U x C fs) (s : Sep K F U H) (r : Rp K F v x) : ∃ a dx ps, v = .ref a ∧ H a = some (.ins C dx ps) ∧ RpK K F ps fs := by
  rcases h with ⟨a, dx, rfl, hu⟩ | rfl
  · obtain ⟨_, ps, h1, h2⟩ := s.own a _ hu
    exact ⟨a, dx, ps, r, h1, h2⟩
  · obtain ⟨a, dx, ps, e, h1, h2⟩ := r F (Same.refl F)
    exact ⟨a, dx, ps, e, s.sub _ _ h1, h2⟩
theorem rpK_look : ∀ {ps : List (Str × V)} {fs : List (Str × W)} {f : Str} {w : W}, RpK K F ps fs → fs.lookup f = some w → ∃ v, ps.lookup f = some v ∧ Rp K F v w
  | _, _, _, _, .nil, e => by cases e
  | (g, v) :: ps, (_, w') :: fs, f, w, .cons r t, e => by
    rw [List.lookup_cons] at e ⊢
    by_cases z : (f == g) = true
    · rw [z] at e ⊢
      cases e
      exact ⟨v, rfl, r⟩
    · rw [Bool.not_eq_true] at z
      rw [z] at e ⊢
      exact rpK_look t e
theorem rpK_put {f : Str} {v : V} {w : W} (r : Rp K F v w) : ∀ {ps : List (Str × V)} {fs : List (Str × W)}, RpK K F ps fs → (∀ g ∈ fs.map (·.1), g ≠ f) → RpK K F (putF f v ps) (fs ++ [(f, w)])
  | _, _, .nil, _ => .cons r .nil
  | (g, v') :: ps, (_, w') :: fs, .cons r' t, h => by
    show RpK K F (if g = f then (g, v) :: ps else (g, v') :: putF f v ps) _
    rw [if_neg (h g (by simp))]
    exact .cons r' (rpK_put r t fun g hg => h g (by simp [hg]))
theorem rpK_len : ∀ {ps : List (Str × V)} {fs : List (Str × W)}, RpK K F ps fs → ps.length = fs.length
  | _, _, .nil => rfl
  | _, _, .cons _ t => by rw [List.length_cons, List.length_cons, rpK_len t]
theorem ev_fld {f : Str} (h : EV K te ρ U fun x U1 => ∃ C fs w, ObIs K U1 x C fs ∧ Cls K C ∧ NoAttr K C f ∧ fs.lookup f = some w ∧ P w U1) : EV K (tFld K te f) ρ U P := fun σ F H sl sp Q k =>
  h σ F H sl sp _ fun v x F1 U1 H1 k1 s1 r1 ⟨C, fs, w, ho, c, n, hw, q⟩ => by
    obtain ⟨a, dx, ps, rfl, h1, h2⟩ := ho.at s1 r1
    obtain ⟨u, hu, ru⟩ := rpK_look h2 hw
    exact ⟨a, C, dx, ps, u, rfl, h1, c, n, hu, k u w F1 U1 H1 k1 s1 ru q⟩
/-- a new instance -/
theorem Sep.newO (s : Sep K F U H) {x dx : Addr} (hx : H x = none) (hd : H dx = none) (ne : dx ≠ x) : Sep K F (put (put U dx (.w x)) x (.o C dx [])) (upd (upd H dx (.own x)) x (.ins C dx [])) ∧ Kp F U H F (put (put U dx (.w x)) x (.o C dx [])) (upd (upd H dx (.own x)) x (.ins C dx [])) := by
  obtain ⟨fx, ux⟩ := s.free hx
  obtain ⟨fd, ud⟩ := s.free hd
  refine ⟨⟨fun b o e => ?_, fun a b e => ?_⟩, ⟨Same.refl F, fun b o e hf hu => ?_⟩⟩
  · rw [upd_ne (ne_of_none e fx), upd_ne (ne_of_none e fd)]
    exact s.sub b o e
  · by_cases z : a = x
    · subst z
      rw [put_same] at e
      cases e
      exact ⟨fx, [], upd_same, .nil⟩
    · rw [put_ne z] at e
      by_cases z2 : a = dx
      · subst z2
        rw [put_same] at e
        cases e
        exact ⟨fd, by show (upd _ x _) a = _; rw [upd_ne z, upd_same]⟩
      · rw [put_ne z2] at e
        obtain ⟨a1, a2⟩ := s.own a b e
        exact ⟨a1, a2.mono (Same.refl F) (by rw [upd_ne z, upd_ne z2])⟩
  · have n1 := ne_of_none e hx
    have n2 := ne_of_none e hd
    exact ⟨by rw [upd_ne n1, upd_ne n2]; exact e, hf, by rw [put_ne n1, put_ne n2]; exact hu⟩
theorem ev_make {p : PT'} {E0' : XK} (h : EA K t ρ U fun ws U1 => ∀ x dx, U1 x = none → U1 dx = none → dx ≠ x → p (.r x :: ws) (put (put U1 dx (.w x)) x (.o C dx [])) fun w U2 => w = .d .none ∧ P (.r x) U2) : EV K (tMakeG C (spW K p) E0' t) ρ U P := fun σ F H sl sp Q k =>
  h σ F H sl sp _ fun vs ws F1 U1 H1 k1 s1 r1 q x dx hx hd ne => by
    obtain ⟨s2, k2⟩ := s1.newO (C := C) hx hd ne
    refine ⟨.r x :: ws, F1, _, _, .cons rfl r1, s2, q x dx (s1.free hx).2 (s1.free hd).2 ne, fun v w F3 U3 H3 k3 s3 r3 ⟨ew, q3⟩ => ?_⟩
    subst ew
    cases r3
    exact ⟨rfl, k (.ref x) (.r x) F3 U3 H3 ((k1.trans k2).trans k3) s3 rfl q3⟩
/-- o.f = e, f new -/
theorem sw_fld {f : Str} (h : EV K tv ρ U fun y U1 => EV K te ρ U1 fun x U2 => ∃ a C dx fs, x = .r a ∧ U2 a = some (.o C dx fs) ∧ Cls K C ∧ NoAttr K C f ∧ fs.length < 1000 ∧ (∀ g ∈ fs.map (·.1), g ≠ f) ∧ E.nx ρ (put U2 a (.o C dx (fs ++ [(f, y)])))) : SW K (sFld K te tv f) ρ U E := fun σ F H D sl sp e =>
  h σ F H sl sp _ fun v y F1 U1 H1 k1 s1 r1 h1 => h1 σ F1 H1 (sl.mono k1.sub) s1 _ fun u x F2 U2 H2 k2 s2 r2 ⟨a, C, dx, fs, ex, hu, c, n, hl, hn, q⟩ => by
    subst ex
    obtain rfl : u = .ref a := r2
    obtain ⟨fa, ps, ha, rk⟩ := s2.own a _ hu
    have k12 := k1.trans k2
    refine ⟨a, C, dx, ps, rfl, ha, c, n, by rw [rpK_len rk]; exact hl, e.nx σ F2 _ ρ _ (k12.trans ⟨Same.refl F2, fun b o hb hf hub => ?_⟩) (sl.mono k12.sub) ⟨fun b o hb => ?_, fun b bx hb => ?_⟩ q⟩
    · have nb : b ≠ a := fun z => by rw [z, hu] at hub; cases hub
      exact ⟨by rw [upd_ne nb]; exact hb, hf, by rw [put_ne nb]; exact hub⟩
    · rw [upd_ne (ne_of_none hb fa)]
      exact s2.sub b o hb
    · by_cases z : b = a
      · subst z
        rw [put_same] at hb
        cases hb
        exact ⟨fa, _, upd_same, rpK_put (rp_mono k2.sub r1) rk hn⟩
      · rw [put_ne z] at hb
        obtain ⟨a1, a2⟩ := s2.own b bx hb
        exact ⟨a1, a2.mono (Same.refl F2) (upd_ne z)⟩
/-- one thing less may change, as it stands -/
theorem Sep.settle (s : Sep K F U H) {a : Addr} {b : Bx} {o : HO} (h : U a = some b) (ha : H a = some o) : Sep K (upd F a o) (cut U a) H ∧ Kp F U H (upd F a o) (cut U a) H := by
  obtain ⟨f, _⟩ := s.own a _ h
  have e1 : Same F (upd F a o) := fun b o q => by rw [upd_ne (ne_of_none q f)]; exact q
  refine ⟨⟨fun b u q => ?_, fun c ws q => ?_⟩, ⟨e1, fun b u q hf hu => ?_⟩⟩
  · by_cases z : b = a
    · rw [z, upd_same] at q
      rw [z, ← q]
      exact ha
    · rw [upd_ne z] at q
      exact s.sub b u q
  · have ne : c ≠ a := fun z => by rw [z, cut_same] at q; cases q
    rw [cut_ne ne] at q
    obtain ⟨a1, a2⟩ := s.own c ws q
    exact ⟨by rw [upd_ne ne]; exact a1, a2.mono e1 rfl⟩
  · have ne : b ≠ a := fun z => by rw [z, h] at hu; cases hu
    exact ⟨q, by rw [upd_ne ne]; exact hf, by rw [cut_ne ne]; exact hu⟩
/-- an instance is set down for good, and its own dict -/
theorem Sep.freezeO (s : Sep K F U H) {x dx : Addr} (h : U x = some (.o C dx fs)) (hd : U dx = some (.w x)) (ne : dx ≠ x) : ∃ F2, Sep K F2 (cut (cut U x) dx) H ∧ Kp F U H F2 (cut (cut U x) dx) H ∧ Rp K F2 (.ref x) (.ob K C fs) := by
  obtain ⟨f, ps, e, r⟩ := s.own x _ h
  obtain ⟨_, ed⟩ := s.own dx _ hd
  obtain ⟨s1, k1⟩ := s.settle h e
  obtain ⟨s2, k2⟩ := s1.settle (a := dx) (b := .w x) (o := .own x) (by rw [cut_ne ne]; exact hd) ed
  refine ⟨_, s2, k1.trans k2, fun G sm => ⟨x, dx, ps, rfl, sm _ _ (by rw [upd_ne (Ne.symm ne), upd_same]), (r.mono (k1.sub.trans k2.sub)).mono sm⟩⟩
/-- a call's promise, its new instance set down for good -/
theorem ev_makeF {p : PT'} {E0' : XK} (h : EA K t ρ U fun ws U1 => ∀ x dx, U1 x = none → U1 dx = none → dx ≠ x → p (.r x :: ws) (put (put U1 dx (.w x)) x (.o C dx [])) fun w U2 => w = .d .none ∧ ∃ fs, U2 x = some (.o C dx fs) ∧ U2 dx = some (.w x) ∧ P (.ob K C fs) (cut (cut U2 x) dx)) : EV K (tMakeG C (spW K p) E0' t) ρ U P := fun σ F H sl sp Q k =>
  h σ F H sl sp _ fun vs ws F1 U1 H1 k1 s1 r1 q x dx hx hd ne => by
    obtain ⟨s2, k2⟩ := s1.newO (C := C) hx hd ne
    refine ⟨.r x :: ws, F1, _, _, .cons rfl r1, s2, q x dx (s1.free hx).2 (s1.free hd).2 ne, fun v w F3 U3 H3 k3 s3 r3 ⟨ew, fs, hu, hud, q3⟩ => ?_⟩
    subst ew
    cases r3
    obtain ⟨F4, s4, k4, r4⟩ := s3.freezeO hu hud ne
    exact ⟨rfl, k (.ref x) _ F4 _ H3 (((k1.trans k2).trans k3).trans k4) s4 r4 q3⟩
/-- x in o -/
theorem r2_inO {p : PT'} {E0' : XK} {neg : Bool} {x y : W} (ho : ObIs K U y C fs) (h : p [y, x] U fun w U2 => ∃ b, w = .b b ∧ P (.b (if neg then !b else b)) U2) : R2W K (rInO C (spW K p) E0' neg) x y U P := fun v u F H sp rx ry Q k => by
  obtain ⟨a, dx, ps, rfl, h1, h2⟩ := ho.at sp ry
  refine ⟨a, dx, ps, rfl, h1, [y, x], F, U, _, .cons ry (.cons rx .nil), sp, h, fun v w F2 U2 H2 k2 s2 r2 ⟨b, ew, q⟩ => ?_⟩
  subst ew
  cases r2
  exact ⟨b, rfl, k _ (.b _) F2 U2 H2 k2 s2 (Dp.bl _) q⟩
end
end Tv

namespace Tv
open PySem PySem.Spec PyProof.Rows L2 RZ StX

/-! ### tuple(d.items()), at the layer below -/
section
variable {prog : Program} {w : World} {A : Around} {E : Value → Shared → Prop} {s : Shared} {κ : Type} [DecidableEq κ] {knd : KeyKind prog w κ} {d r : Addr} {kvs : List (κ × Value)} {ep : Nat}
theorem new_tuple_items {Q₁ : Value → Shared → Prop} (hh : A.handled = none) (hv : s.heap.IsItemsView r d) (hm : s.heap.DictAt knd d kvs ep) (hn : kvs.length ≤ sizeLine)
    (h : ∀ (h' : Heap) (tk : Nat) (as : List Addr), (∀ b o, s.heap.get? b = some o → h'.get? b = some o) → as.length = kvs.length → PySem.W.KdxG knd kvs s.heap.objs.size h' as →
      Q₁ (.ref h'.objs.size) { s with heap := h'.push { cls := .type "tuple", data := .seq (as.map Value.ref).toArray }, toks := tk }) :
    codeAny (model prog w) A (.call (.builtin "tuple.__new__") ⟨[.type "tuple", .ref r], []⟩) (wants Q₁ E) s := by
  apply codeAny_of_tree
  show wpAny _ A.in1 (do
    checkBuiltinCall "tuple.__new__" ⟨[.type "tuple", .ref r], []⟩
    again (.builtin "tuple.__new__" ⟨[.type "tuple", .ref r], []⟩)) _ _ s
  apply wpAny_bind
  apply wpAny_of_eq (F.newCall_tuple_1 _)
  apply wpAny_pure
  refine ⟨plainId_quiet F.plain_tuple_new _, ?_⟩
  apply codeAny_builtin F.entry_tuple_new
  rw [Around.under_plainId (A := A) F.plain_tuple_new _]
  have q1 := sub_tuple_self
  have q2 := init_tuple_lookup
  have q3 := madeHere_tuple
  have ty := hv.typeIs
  wp_walk using wpAny_typeOf ty, PySem.W.kdx_collect (A := A.in1) hh hv hm hn
  intro h' tk as hk hl hG
  show wpAny _ _ (do
    let v ← Builtin.Tuple.tupleExact (as.map Value.ref).toArray
    ret v) _ _ _
  unfold Builtin.Tuple.tupleExact
  apply wpAny_bind
  apply wpAny_newObj_type
  · exact wpAny_pure (h h' tk as hk hl hG)
  · show (as.map Value.ref).toArray.size ≤ sizeLine
    rw [List.size_toArray, List.length_map, hl]
    exact hn
theorem call_tuple_items {Q : Value → Shared → Prop} (hh : A.handled = none) (hv : s.heap.IsItemsView r d) (hm : s.heap.DictAt knd d kvs ep) (hn : kvs.length ≤ sizeLine)
    (h : ∀ (h' : Heap) (tk : Nat) (as : List Addr), (∀ b o, s.heap.get? b = some o → h'.get? b = some o) → as.length = kvs.length → PySem.W.KdxG knd kvs s.heap.objs.size h' as →
      Q (.ref h'.objs.size) { s with heap := h'.push { cls := .type "tuple", data := .seq (as.map Value.ref).toArray }, toks := tk }) :
    wpAny (model prog w) A (call (.type "tuple") [.ref r]) Q E s := by
  have made := new_tuple_items (A := A.in1) (E := E) (Q₁ := fun obj s₁ => s₁.TypeIs obj "tuple" ∧ Q obj s₁) hh hv hm hn fun h' tk as hk hl hG => ⟨⟨_, Heap.get?_push_size _ rfl, rfl⟩, h h' tk as hk hl hG⟩
  apply callType_codes F.called_tuple (F.typeCall_tuple_1 _) F.entry_object_init made
  intro obj s₁ z
  refine ⟨z.1, F.args_object_init_2 obj _, ?_⟩
  exact object_init_meets F.called_tuple.init.lookup F.called_tuple.made (by decide) prog w A.in1 _ s₁ ⟨z.1, rfl, z.2⟩
end

/-! ### what stands in the heap is tracked -/
section
variable {X : Cx} {pins : List (Addr × Obj)} {σ : L2.St} {H : Hp} {s : Shared}
theorem track (I : Inv X pins σ H s) {a : Addr} {o : HO} (na : H a = none) (nL : a ≠ X.env.locals) (nC : ∀ x c, X.env.cells.lookup x = some c → c ≠ a) (n0 : X.s_0.heap.get? a = none) (np : ∀ p ∈ X.pn ++ pins, p.1 ≠ a)
    (new : ObjOk X.prog X.w (upd H a o) s.heap a o) : Inv X pins σ (upd H a o) s := by
  have old : ∀ {b : Addr} {u : HO}, H b = some u → upd H a o b = some u := fun {b u} e => by
    rw [upd_ne (ne_of_none e na)]
    exact e
  have out : ∀ {b : Addr}, b ≠ a → H b = none → upd H a o b = none := fun {b} e n => by
    rw [upd_ne e]
    exact n
  exact
    { ok := I.ok, os := I.os, bare := I.bare
      base :=
        { keep := I.base.keep, slot := I.base.slot, there := I.base.there
          free := fun b u e n hx => out (fun z => by rw [z, n0] at e; cases e) (I.base.free b u e n hx)
          tups := fun b xs e => old (I.base.tups b xs e)
          frzs := fun b u v e => old (I.base.frzs b u v e)
          tbls := fun b ps e => by
            obtain ⟨more, z⟩ := I.base.tbls b ps e
            exact ⟨more, old z⟩ }
      loc := I.loc, cell := I.cell, len := I.len
      free := out (Ne.symm nL) I.free
      freeC := fun x c e => out (nC x c e) (I.freeC x c e)
      pin := fun p hp => by
        obtain ⟨p1, p2, p3⟩ := I.pin p hp
        exact ⟨p1, out (np p hp) p2, p3⟩
      hok := fun b u e => by
        by_cases z : b = a
        · subst z
          rw [upd_same] at e
          cases e
          exact new
        · rw [upd_ne z] at e
          exact (I.hok b u e).stay (fun _ _ _ q => q) (fun _ q => old q) fun _ _ q => old q }
/-- what is new since a state is nothing of ours -/
theorem new_is (I : Inv X pins σ H s) {a : Addr} (h : s.heap.objs.size ≤ a) : H a = none ∧ a ≠ X.env.locals ∧ (∀ x c, X.env.cells.lookup x = some c → c ≠ a) ∧ X.s_0.heap.get? a = none ∧ ∀ p ∈ X.pn ++ pins, p.1 ≠ a := by
  have lt : ∀ {b : Addr} {o : Obj}, s.heap.get? b = some o → b ≠ a := fun {b o} e z => by
    have := Heap.lt_size e
    rw [z] at this
    exact absurd (Nat.lt_of_lt_of_le this h) (Nat.lt_irrefl _)
  refine ⟨I.hok.fresh h, fun z => ?_, fun x c e => ?_, ?_, fun p hp => lt (I.pin p hp).1⟩
  · have := I.lt
    rw [← z] at this
    exact absurd (Nat.lt_of_lt_of_le this h) (Nat.lt_irrefl _)
  · obtain ⟨v, o, ho, _⟩ := I.cell x c e
    exact lt ho
  · exact Heap.get?_none_of_le (Nat.le_trans I.sz h)
def layP (H : Hp) : List Addr → List (Key × V) → Hp
  | a :: as, kv :: kvs => layP (upd H a (.tup [kV kv.1, kv.2])) as kvs
  | _, _ => H
theorem layP_off {b : Addr} : ∀ {as : List Addr} {kvs : List (Key × V)} {H : Hp}, b ∉ as → layP H as kvs b = H b
  | [], _, _, _ => rfl
  | _ :: _, [], _, _ => rfl
  | a :: as, kv :: kvs, H, h => by
    show layP (upd H a _) as kvs b = H b
    rw [layP_off fun z => h (List.mem_cons_of_mem _ z), upd_ne fun z => h (by rw [z]; exact List.mem_cons_self)]
theorem layP_at : ∀ {as : List Addr} {kvs : List (Key × V)} {H : Hp}, as.length = kvs.length → as.Nodup → Paired (fun t p => layP H as kvs t = some (.tup [kV p.1, p.2])) as kvs
  | [], [], _, _, _ => .nil
  | a :: as, kv :: kvs, H, h, nd => by
    rw [List.nodup_cons] at nd
    have r := layP_at (H := upd H a (.tup [kV kv.1, kv.2])) (as := as) (kvs := kvs) (by simpa using h) nd.2
    refine .cons ?_ r
    show layP (upd H a _) as kvs a = _
    rw [layP_off nd.1, upd_same]
theorem lay_pairs {as : List Addr} {kvs : List (Key × V)} (r : Paired (fun (a : Addr) (kv : Key × V) => ∃ key v, RelV (kV kv.1) key ∧ RelV kv.2 v ∧ s.heap.get? a = some { cls := .type "tuple", data := .seq #[key, v] }) as kvs) : ∀ {H : Hp}, Inv X pins σ H s → as.Nodup →
    (∀ a ∈ as, H a = none ∧ a ≠ X.env.locals ∧ (∀ x c, X.env.cells.lookup x = some c → c ≠ a) ∧ X.s_0.heap.get? a = none ∧ ∀ p ∈ X.pn ++ pins, p.1 ≠ a) → Inv X pins σ (layP H as kvs) s := by
  induction r with
  | nil => intro H I _ _; exact I
  | @cons a kv as' kvs' h t ih =>
    intro H I nd hh
    rw [List.nodup_cons] at nd
    obtain ⟨h1, h2, h3, h4, h5⟩ := hh a List.mem_cons_self
    obtain ⟨key, v, r1, r2, e⟩ := h
    have J := track (o := .tup [kV kv.1, kv.2]) I h1 h2 h3 h4 h5 ⟨by show 2 ≤ sizeLine; decide, [key, v], .cons r1 (.cons r2 .nil), ⟨_, e, rfl, _, rfl⟩⟩
    refine ih J nd.2 fun b hb => ?_
    obtain ⟨g1, g2⟩ := hh b (List.mem_cons_of_mem _ hb)
    exact ⟨by rw [upd_ne fun z => nd.1 (by rw [← z]; exact hb)]; exact g1, g2⟩
end
end Tv

namespace Tv
open PySem PySem.Spec PyProof.Rows L2 RZ StX
section
variable {X : Cx}
def rItemsK : V → List V → Hp → VK → Prop := fun x xs H Q => ∃ (a : Addr) (kvs : List (Key × V)), x = .ref a ∧ xs = [] ∧ H a = some (.dK kvs) ∧ ∀ p, H p = none → Q (.ref p) (upd H p (L2.DX.itemsO p a))
theorem mt_itemsK : MtR X "dict.items" rItemsK := by
  intro pins s σ H x xs v us Q I rx rxs h
  obtain ⟨a, kvs, rfl, rfl, ha, q⟩ := h
  cases rx
  cases rxs
  have ob : ObjOk X.prog X.w H s.heap a (.dK kvs) := I.hok a _ ha
  obtain ⟨hz, hs, vs, kv, hd⟩ := ob
  refine call_meetsIn F.slot_dict_items hd.typeIs F.entry_dict_items (F.args_dict_items_1 _) (meets_dict_items (mixKind X.prog X.w) a hs) ⟨⟨vs, hd⟩, ?_⟩
  exact ⟨.ref s.heap.objs.size, _, I.laid (t' := s.toks) (fun b u e => Heap.get?_push_of_some _ e) (Nat.le_refl _) (L2.DX.itemsO_ok (Heap.get?_push_size _ rfl)), rfl, q _ (I.hok.fresh (Nat.le_refl _))⟩
def tupO (as : List Addr) : Obj := { cls := .type "tuple", data := .seq (as.map Value.ref).toArray }
def rTupItems : List V → Hp → VK → Prop := fun xs H Q => ∃ (p d : Addr) (kvs : List (Key × V)), xs = [.ref p] ∧ H p = some (L2.DX.itemsO p d) ∧ H d = some (.dK kvs) ∧
  ∀ T as, as.length = kvs.length → as.Nodup → (∀ a ∈ as, H a = none) → H T = none → T ∉ as → Q (.ref T) (upd (layP H as kvs) T (.frz (tupO as) (.tup (as.map V.ref))))
theorem refs_vals : ∀ as : List Addr, Vals (as.map V.ref) (as.map Value.ref)
  | [] => .nil
  | a :: as => .cons rfl (refs_vals as)
theorem pairs_at {P : Program} {w : World} {vs : List (Key × Value)} {kvs : List (Key × V)} {h : Heap} (kv : KV kvs vs) : ∀ {as : List Addr}, as.length = vs.length →
    (∀ (j : Nat) a, as[j]? = some a → ∃ key k x, vs[j]? = some (k, x) ∧ (mixKind P w).is k key = true ∧ h.get? a = some { cls := .type "tuple", data := .seq #[key, x] }) →
    Paired (fun (a : Addr) (kv : Key × V) => ∃ key v, RelV (kV kv.1) key ∧ RelV kv.2 v ∧ h.get? a = some { cls := .type "tuple", data := .seq #[key, v] }) as kvs := by
  unfold KV at kv
  induction kv with
  | nil =>
    intro as hl _
    cases as with
    | nil => exact .nil
    | cons _ _ => simp at hl
  | cons h1 t ih =>
    intro as hl hj
    cases as with
    | nil => simp at hl
    | cons a as =>
      obtain ⟨key, k, x, e1, e2, e3⟩ := hj 0 a rfl
      rw [List.getElem?_cons_zero] at e1
      have e1 := Option.some.inj e1
      subst e1
      refine .cons ⟨key, x, ?_, h1.2, e3⟩ (ih (by simpa using hl) fun j b hb => ?_)
      · rw [h1.1]
        exact relV_key e2
      · obtain ⟨key, k, x, g1, g2, g3⟩ := hj (j + 1) b (by simpa using hb)
        exact ⟨key, k, x, by simpa using g1, g2, g3⟩
theorem cr_tupItems (hc : X.calm = true) (hex : X.ex = []) : CallR X (.type "tuple") rTupItems := by
  intro pins s σ H xs us Q I r h
  obtain ⟨p, d, kvs, rfl, hp, hd, q⟩ := h
  rw [Vals.ref1 r]
  have ob : ObjOk X.prog X.w H s.heap d (.dK kvs) := I.hok d _ hd
  obtain ⟨hz, hs, vs, kv, hdo⟩ := ob
  obtain ⟨ep, hat⟩ := hdo.dictAt
  have lk : kvs.length = vs.length := Paired.length kv
  have oi : ObjOk X.prog X.w H s.heap p (L2.DX.itemsO p d) := I.hok p _ hp
  obtain ⟨hv, _, _⟩ := oi
  refine call_tuple_items (knd := mixKind X.prog X.w) (I.ok.hd hc) hv hat (by omega) fun h' tk as hk hl hG => ?_
  have nd : as.Nodup := List.Pairwise.imp (fun {a b} (h : a < b) => Nat.ne_of_lt h) hG.rise
  have hk2 : ∀ b o, s.heap.get? b = some o → (h'.push { cls := .type "tuple", data := .seq (as.map Value.ref).toArray }).get? b = some o := fun b o e => Heap.get?_push_of_some _ (hk b o e)
  have J := I.kept (t' := tk) hk2
  have old : ∀ {b : Addr} {o : Obj}, s.heap.get? b = some o → b ≠ h'.objs.size := fun {b o} e => Nat.ne_of_lt (Heap.lt_size (hk b o e))
  have hT : H h'.objs.size = none := by
    cases e : H h'.objs.size with
    | none => rfl
    | some u => exact absurd ((I.hok.kept hk).lt e) (Nat.lt_irrefl _)
  have inA : ∀ a ∈ as, a < h'.objs.size := fun a ha => hG.there ha
  have hTa : h'.objs.size ∉ as := fun z => absurd (inA _ z) (Nat.lt_irrefl _)
  have fresh : ∀ a ∈ as, H a = none ∧ a ≠ X.env.locals ∧ (∀ x c, X.env.cells.lookup x = some c → c ≠ a) ∧ X.s_0.heap.get? a = none ∧ ∀ p ∈ X.pn ++ pins, p.1 ≠ a := fun a ha => new_is I (Nat.le_of_lt (hG.above a ha))
  have prs := pairs_at (P := X.prog) (w := X.w) (h := h'.push { cls := .type "tuple", data := .seq (as.map Value.ref).toArray }) kv hl fun j a e => by
    obtain ⟨key, k, x, e1, e2, e3⟩ := hG.pairs j a e
    exact ⟨key, k, x, e1, e2, Heap.get?_push_of_some _ e3⟩
  have J2 := lay_pairs prs J nd fresh
  have nT : ∀ b, b ∉ as → layP H as kvs b = H b := fun b hb => layP_off hb
  have J3 := track (a := h'.objs.size) (o := .frz (tupO as) (.tup (as.map V.ref))) J2 (by rw [nT _ hTa]; exact hT)
    (fun z => by
      obtain ⟨m, ⟨o, es, ep, ho, _⟩, _⟩ := I.loc
      exact old ho z.symm)
    (fun x c e => by
      obtain ⟨v, o, ho, _⟩ := I.cell x c e
      exact old ho)
    (by
      cases e : X.s_0.heap.get? h'.objs.size with
      | none => rfl
      | some o =>
        obtain ⟨o', e'⟩ := I.base.there _ o e (by rw [hex]; exact List.not_mem_nil)
        exact absurd rfl (old e'))
    (fun p hp => old (I.pin p hp).1)
    ⟨Heap.get?_push_size _ rfl, by rw [List.length_map, hl, ← lk]; exact hz, as.map Value.ref, refs_vals as, ⟨_, Heap.get?_push_size _ rfl, rfl, _, rfl⟩⟩
  exact ⟨.ref h'.objs.size, _, J3, rfl, q _ as (by omega) nd (fun a ha => (fresh a ha).1) hT hTa⟩
end
end Tv

namespace Tv
open PySem PySem.Spec PyProof.Rows L2 RZ StX

/-! ### dicts, as things -/
def kD : Key → PyData
  | .inl i => .int i
  | .inr x => .str x
section
variable {K : PySem.W.Frag} {F H : Hp} {U : UU}
theorem dp_key {v : V} {k : Key} (h : Dp K F v (kD k)) : v = kV k := by
  cases k with
  | inl i => cases h; rfl
  | inr x => cases h; rfl
theorem key_dp : ∀ {k : Key}, Dp K F (kV k) (kD k)
  | .inl i => Dp.int i
  | .inr x => Dp.str x
variable (K) in
/-- a dict that never changes -/
def isDk (kvs : List (Key × W)) : Hp → V → Prop := fun F v => ∃ a ps, v = .ref a ∧ F a = some (.dK ps) ∧ RpK K F ps kvs
variable (K) in
abbrev W.dk (kvs : List (Key × W)) : W := .x (isDk K kvs)
variable (K) in
/-- x is a dict of these pairs -/
def DkIs (U : UU) (x : W) (kvs : List (Key × W)) : Prop := (∃ a, x = .r a ∧ U a = some (.k kvs)) ∨ x = .dk K kvs
theorem DkIs.at {x : W} {v : V} {kvs : List (Key × W)} (h : DkIs K U x kvs) (s : Sep K F U H) (r : Rp K F v x) : ∃ a ps, v = .ref a ∧ H a = some (.dK ps) ∧ RpK K F ps kvs := by
  rcases h with ⟨a, rfl, hu⟩ | rfl
  · obtain ⟨_, ps, h1, h2⟩ := s.own a _ hu
    exact ⟨a, ps, r, h1, h2⟩
  · obtain ⟨a, ps, e, h1, h2⟩ := r F (Same.refl F)
    exact ⟨a, ps, e, s.sub _ _ h1, h2⟩
/-- what stands at a key -/
def getK (kvs : List (Key × W)) (k : Key) : Option W := (kvs.find? fun kv => decide (kv.1 = k)).map (·.2)
def storeK (kvs : List (Key × W)) (k : Key) (w : W) : List (Key × W) :=
  if (kvs.any fun kv => decide (kv.1 = k)) = true then kvs.map (fun kv => if kv.1 = k then (kv.1, w) else kv) else kvs ++ [(k, w)]
theorem getK_nil {k : Key} : getK [] k = none := rfl
theorem getK_cons {k j : Key} {w : W} {kvs : List (Key × W)} : getK ((j, w) :: kvs) k = if j = k then some w else getK kvs k := by
  unfold getK
  rw [List.find?_cons]
  by_cases e : j = k
  · simp [e]
  · simp [e]
theorem rpK_get {k : Key} : ∀ {ps : List (Key × V)} {kvs : List (Key × W)}, RpK K F ps kvs → (getK kvs k = none ∧ valV ps k = none) ∨ ∃ w v, getK kvs k = some w ∧ valV ps k = some v ∧ Rp K F v w
  | _, _, .nil => .inl ⟨rfl, rfl⟩
  | (j, v) :: ps, (_, w) :: kvs, .cons r t => by
    rw [getK_cons]
    by_cases e : j = k
    · exact .inr ⟨w, v, if_pos e, valV_pos e, r⟩
    · rw [if_neg e, valV_neg e]
      exact rpK_get t
theorem rpK_any {k : Key} : ∀ {ps : List (Key × V)} {kvs : List (Key × W)}, RpK K F ps kvs → (ps.any fun kv => decide (kv.1 = k)) = kvs.any fun kv => decide (kv.1 = k)
  | _, _, .nil => rfl
  | _, _, .cons r t => by rw [List.any_cons, List.any_cons, rpK_any t]
theorem rpK_app {ps qs : List (Key × V)} {kvs zs : List (Key × W)} (a : RpK K F ps kvs) (b : RpK K F qs zs) : RpK K F (ps ++ qs) (kvs ++ zs) := by
  induction a with
  | nil => exact b
  | cons r t ih => exact .cons r ih
theorem rpK_length {κ : Type} : ∀ {ps : List (κ × V)} {kvs : List (κ × W)}, RpK K F ps kvs → ps.length = kvs.length
  | _, _, .nil => rfl
  | _, _, .cons _ t => by rw [List.length_cons, List.length_cons, rpK_length t]
theorem rpK_mset {k : Key} {v : V} {w : W} (r : Rp K F v w) : ∀ {ps : List (Key × V)} {kvs : List (Key × W)}, RpK K F ps kvs → RpK K F (ps.map fun kv => if kv.1 = k then (kv.1, v) else kv) (kvs.map fun kv => if kv.1 = k then (kv.1, w) else kv)
  | _, _, .nil => .nil
  | (j, v') :: ps, (_, w') :: kvs, .cons r' t => by
    rw [List.map_cons, List.map_cons]
    by_cases e : j = k
    · simp only [e, if_true]
      exact .cons r (rpK_mset r t)
    · simp only [e, if_false]
      exact .cons r' (rpK_mset r t)
theorem rpK_store {k : Key} {v : V} {w : W} (r : Rp K F v w) {ps : List (Key × V)} {kvs : List (Key × W)} (h : RpK K F ps kvs) : RpK K F (putK ps k v) (storeK kvs k w) := by
  unfold putK storeK
  rw [rpK_any h]
  split
  · exact rpK_mset r h
  · exact rpK_app h (.cons r .nil)
theorem storeK_new {kvs : List (Key × W)} {k : Key} {w : W} (h : getK kvs k = none) : storeK kvs k w = kvs ++ [(k, w)] := by
  have e : (kvs.any fun kv => decide (kv.1 = k)) = false := by
    rw [Bool.eq_false_iff]
    intro z
    obtain ⟨kv, h1, h2⟩ := List.any_eq_true.mp z
    have := List.find?_eq_none.mp (Option.map_eq_none_iff.mp h) kv h1
    exact this h2
  unfold storeK
  rw [if_neg (by rw [e]; exact Bool.false_ne_true)]
end
section
variable {K : PySem.W.Frag} {ρ : Rho} {U : UU} {P : W → UU → Prop} {F H : Hp} {td ty tv : TE} {t : TA} {E : EndW}
theorem ev_dget (h : EV K td ρ U fun x U1 => EV K ty ρ U1 fun y U2 => ∃ kvs k w, DkIs K U2 x kvs ∧ y = .d (kD k) ∧ getK kvs k = some w ∧ P w U2) : EV K (tDGet td ty) ρ U P := fun σ F H sl sp Q k =>
  h σ F H sl sp _ fun v x F1 U1 H1 k1 s1 r1 h1 => h1 σ F1 H1 (sl.mono k1.sub) s1 _ fun u y F2 U2 H2 k2 s2 r2 ⟨kvs, key, w, hd, ey, hw, q⟩ => by
    subst ey
    obtain ⟨a, ps, rfl, h1, h2⟩ := hd.at s2 (rp_mono k2.sub r1)
    obtain rfl := dp_key r2
    rcases rpK_get (k := key) h2 with ⟨z, _⟩ | ⟨w', v', e1, e2, r'⟩
    · rw [hw] at z
      cases z
    · rw [hw] at e1
      cases e1
      exact ⟨a, v', rfl, .inl ⟨ps, key, .inl h1, rfl, e2.symm⟩, k v' w F2 U2 H2 (k1.trans k2) s2 r' q⟩
theorem ev_din (h : EV K ty ρ U fun y U1 => EV K td ρ U1 fun x U2 => ∃ kvs k, DkIs K U2 x kvs ∧ y = .d (kD k) ∧ P (.b (getK kvs k).isSome) U2) : EV K (tDIn ty td) ρ U P := fun σ F H sl sp Q k =>
  h σ F H sl sp _ fun v y F1 U1 H1 k1 s1 r1 h1 => h1 σ F1 H1 (sl.mono k1.sub) s1 _ fun u x F2 U2 H2 k2 s2 r2 ⟨kvs, key, hd, ey, q⟩ => by
    subst ey
    obtain ⟨a, ps, rfl, h1, h2⟩ := hd.at s2 r2
    obtain rfl := dp_key (rp_mono k2.sub r1)
    refine ⟨a, valV ps key, rfl, .inl ⟨ps, key, .inl h1, rfl, rfl⟩, ?_⟩
    have e : (valV ps key).isSome = (getK kvs key).isSome := by
      rcases rpK_get (k := key) h2 with ⟨z1, z2⟩ | ⟨w', v', e1, e2, r'⟩
      · rw [z1, z2]; rfl
      · rw [e1, e2]; rfl
    rw [e]
    exact k _ (.b _) F2 U2 H2 (k1.trans k2) s2 (Dp.bl _) q
theorem ev_dnotin (h : EV K ty ρ U fun y U1 => EV K td ρ U1 fun x U2 => ∃ kvs k, DkIs K U2 x kvs ∧ y = .d (kD k) ∧ P (.b (!(getK kvs k).isSome)) U2) : EV K (tDNotIn ty td) ρ U P := fun σ F H sl sp Q k =>
  h σ F H sl sp _ fun v y F1 U1 H1 k1 s1 r1 h1 => h1 σ F1 H1 (sl.mono k1.sub) s1 _ fun u x F2 U2 H2 k2 s2 r2 ⟨kvs, key, hd, ey, q⟩ => by
    subst ey
    obtain ⟨a, ps, rfl, h1, h2⟩ := hd.at s2 r2
    obtain rfl := dp_key (rp_mono k2.sub r1)
    refine ⟨a, valV ps key, rfl, .inl ⟨ps, key, .inl h1, rfl, rfl⟩, ?_⟩
    have e : (valV ps key).isSome = (getK kvs key).isSome := by
      rcases rpK_get (k := key) h2 with ⟨z1, z2⟩ | ⟨w', v', e1, e2, r'⟩
      · rw [z1, z2]; rfl
      · rw [e1, e2]; rfl
    rw [e]
    exact k _ (.b _) F2 U2 H2 (k1.trans k2) s2 (Dp.bl _) q
/-- something that may change is written -/
theorem Sep.set (s : Sep K F U H) {a : Addr} {b b' : Bx} {o : HO} (h : U a = some b) (hh : Holds K F (upd H a o) a b') : Sep K F (put U a b') (upd H a o) ∧ Kp F U H F (put U a b') (upd H a o) := by
  obtain ⟨f, _⟩ := s.own a b h
  refine ⟨⟨fun c x e => ?_, fun c bx e => ?_⟩, ⟨Same.refl F, fun c x e hf hu => ?_⟩⟩
  · rw [upd_ne (ne_of_none e f)]
    exact s.sub c x e
  · by_cases z : c = a
    · subst z
      rw [put_same] at e
      cases e
      exact ⟨f, hh⟩
    · rw [put_ne z] at e
      obtain ⟨a1, a2⟩ := s.own c bx e
      exact ⟨a1, a2.mono (Same.refl F) (upd_ne z)⟩
  · have ne : c ≠ a := fun z => by rw [z, h] at hu; cases hu
    exact ⟨by rw [upd_ne ne]; exact e, hf, by rw [put_ne ne]; exact hu⟩
/-- something new that may change -/
theorem Sep.newB (s : Sep K F U H) {a : Addr} {b : Bx} {o : HO} (h : H a = none) (hh : Holds K F (upd H a o) a b) : Sep K F (put U a b) (upd H a o) ∧ Kp F U H F (put U a b) (upd H a o) := by
  obtain ⟨f, u⟩ := s.free h
  refine ⟨⟨fun c x e => ?_, fun c bx e => ?_⟩, ⟨Same.refl F, fun c x e hf hu => ?_⟩⟩
  · rw [upd_ne (ne_of_none e f)]
    exact s.sub c x e
  · by_cases z : c = a
    · subst z
      rw [put_same] at e
      cases e
      exact ⟨f, hh⟩
    · rw [put_ne z] at e
      obtain ⟨a1, a2⟩ := s.own c bx e
      exact ⟨a1, a2.mono (Same.refl F) (upd_ne z)⟩
  · have ne := ne_of_none e h
    exact ⟨by rw [upd_ne ne]; exact e, hf, by rw [put_ne ne]; exact hu⟩
theorem ev_dnew (h : ∀ a, U a = none → P (.r a) (put U a (.k []))) : EV K tDNewK ρ U P := fun σ F H sl sp Q k p hp => by
  obtain ⟨s2, k2⟩ := sp.newB (b := .k []) (o := .dK []) hp ⟨[], upd_same, .nil⟩
  exact k _ (.r p) F _ _ k2 s2 rfl (h p (sp.free hp).2)
theorem sw_dput (h : EV K tv ρ U fun w U1 => EV K td ρ U1 fun x U2 => EV K ty ρ U2 fun y U3 => ∃ a kvs k, x = .r a ∧ y = .d (kD k) ∧ U3 a = some (.k kvs) ∧ kvs.length < sizeLine ∧ E.nx ρ (put U3 a (.k (storeK kvs k w)))) : SW K (sDPut td ty tv) ρ U E := fun σ F H D sl sp e =>
  h σ F H sl sp _ fun v w F1 U1 H1 k1 s1 r1 h1 => h1 σ F1 H1 (sl.mono k1.sub) s1 _ fun u x F2 U2 H2 k2 s2 r2 h2 => h2 σ F2 H2 (sl.mono (k1.sub.trans k2.sub)) s2 _ fun z y F3 U3 H3 k3 s3 r3 ⟨a, kvs, key, ex, ey, hu, hl, q⟩ => by
    subst ex ey
    obtain rfl : u = .ref a := r2
    obtain rfl := dp_key r3
    obtain ⟨f, ps, ha, rk⟩ := s3.own a _ hu
    have hlen := rpK_length rk
    obtain ⟨s4, k4⟩ := s3.set (b' := .k (storeK kvs key w)) (o := .dK (putK ps key v)) hu ⟨_, upd_same, rpK_store (rp_mono (k2.sub.trans k3.sub) r1) rk⟩
    have kk := ((k1.trans k2).trans k3).trans k4
    exact ⟨a, _, rfl, .inl ⟨ps, key, ha, rfl, by rw [hlen]; exact hl, rfl⟩, e.nx σ F3 _ ρ _ kk (sl.mono kk.sub) s4 q⟩
def rLenD : List V → Hp → VK → Prop := fun xs H Q => ∃ a kvs, xs = [V.ref a] ∧ H a = some (.dK kvs) ∧ Q (.int kvs.length) H
theorem b_lenD {X : Cx} : CallR X (.builtin "len") rLenD := call_lenD
theorem rl_lenD {x : W} {kvs : List (Key × W)} (hd : DkIs K U x kvs) (q : P (.i kvs.length) U) : RLW K rLenD [x] U P := fun vs F H sp r Q k => by
  cases r with
  | cons rx rr =>
    cases rr
    obtain ⟨a, ps, rfl, h1, h2⟩ := hd.at sp rx
    have hlen := rpK_length h2
    exact ⟨a, ps, rfl, h1, by rw [hlen]; exact k _ (.i _) F U H .refl sp (Dp.int _) q⟩
end
end Tv

namespace Tv
open PySem PySem.Spec PyProof.Rows L2 RZ StX
/-! ### dict(xs), xs a list or a known tuple of pairs -/
section
variable {X : Cx}
/-- the pairs at these addresses -/
theorem pairItems {P : Program} {w : World} {K : PySem.W.Frag} {pins : List (Addr × Obj)} {σ : L2.St} {H : Hp} {s : Shared} (I : Inv X pins σ H s) : ∀ {ps : List Addr} {kvs : List (Key × V)}, Paired (fun p kv => SqT X.K H p [kV kv.1, kv.2]) ps kvs →
    ∃ prs : List (Key × Value), KV kvs prs ∧ prs.length = ps.length ∧ ∀ (j : Nat) k v, prs[j]? = some (k, v) → ∃ a key, ps[j]? = some a ∧ keyIs k key = true ∧ ∃ o n, s.heap.get? a = some o ∧ o.cls = .type "tuple" ∧ o.data = .seq #[key, v] n
  | [], [], _ => ⟨[], .nil, rfl, fun j k v e => by simp at e⟩
  | p :: ps, kv :: kvs, r => by
    cases r with
    | cons h t =>
      obtain ⟨prs, r1, r2, r3⟩ := pairItems (P := P) (w := w) (K := K) I t
      obtain ⟨its, rv, ⟨o, ho, hc, n, hd⟩, hz⟩ := I.tuple h
      cases rv with
      | cons a1 rr =>
        rename_i key us
        cases rr with
        | cons a2 rr =>
          rename_i v us
          cases rr
          have hk : keyIs kv.1 key = true := kV_is (P := P) (w := w) a1
          refine ⟨(kv.1, v) :: prs, .cons ⟨rfl, a2⟩ r1, by rw [List.length_cons, List.length_cons, r2], fun j k v' e => ?_⟩
          cases j with
          | zero =>
            rw [List.getElem?_cons_zero] at e
            have e := Option.some.inj e
            cases e
            exact ⟨p, key, rfl, hk, o, n, ho, hc, hd⟩
          | succ j =>
            rw [List.getElem?_cons_succ] at e
            obtain ⟨a, key', g1, g2⟩ := r3 j k v' e
            exact ⟨a, key', by rw [List.getElem?_cons_succ]; exact g1, g2⟩
end
end Tv

namespace Tv
open PySem PySem.Spec PyProof.Rows L2 RZ StX

/-! ### while; lists that are popped, extended, asked -/
section
variable {K : PySem.W.Frag} {ρ : Rho} {U : UU} {E : EndW} {P : W → UU → Prop} {N : Rho → UU → Prop}
/-- while: an invariant with a measure -/
theorem sw_while {c : TT} {tb : TS} (Iv : Nat → Rho → UU → Prop) (m0 : Nat) (h0 : Iv m0 ρ U)
    (hs : ∀ m ρ U, Iv m ρ U → ET K c ρ U fun b U1 => (b = true → SW K tb ρ U1 { E with nx := fun ρ2 U2 => ∃ m', m' < m ∧ Iv m' ρ2 U2, ct := fun ρ2 U2 => ∃ m', m' < m ∧ Iv m' ρ2 U2, bk := E.nx }) ∧ (b = false → E.nx ρ U1)) :
    SW K (tWhile c tb) ρ U E := fun σ F H D sl sp e => by
  refine ⟨fun m σ2 H2 => ∃ F2 ρ2 U2, Kp F U H F2 U2 H2 ∧ Sl K F2 σ2 ρ2 ∧ Sep K F2 U2 H2 ∧ Iv m ρ2 U2, ⟨m0, F, ρ, U, .refl, sl, sp, h0⟩, ?_⟩
  rintro m σ2 H2 ⟨F2, ρ2, U2, k2, sl2, s2, iv⟩
  refine hs m ρ2 U2 iv σ2 F2 H2 sl2 s2 _ fun b F3 U3 H3 k3 s3 ⟨qt, qf⟩ => ?_
  have k23 := k2.trans k3
  cases b with
  | true =>
    rw [if_pos rfl]
    refine ⟨fun σ' H' => ∃ m', m' < m ∧ ∃ F' ρ' U', Kp F U H F' U' H' ∧ Sl K F' σ' ρ' ∧ Sep K F' U' H' ∧ Iv m' ρ' U', fun σ' H' ⟨m', a, F', ρ', U', b⟩ => ⟨m', a, F', ρ', U', b⟩, ?_⟩
    exact qt rfl σ2 F3 H3 _ (sl2.mono k3.sub) s3 ⟨fun σ5 F5 H5 ρ5 U5 k5 sl5 s5 ⟨m', a, n5⟩ => ⟨m', a, F5, ρ5, U5, k23.trans k5, sl5, s5, n5⟩,
      fun v w F5 H5 U5 k5 s5 r5 q5 => e.rt v w F5 H5 U5 (k23.trans k5) s5 r5 q5,
      fun σ5 F5 H5 ρ5 U5 k5 sl5 s5 n5 => e.nx σ5 F5 H5 ρ5 U5 (k23.trans k5) sl5 s5 n5,
      fun σ5 F5 H5 ρ5 U5 k5 sl5 s5 ⟨m', a, n5⟩ => ⟨m', a, F5, ρ5, U5, k23.trans k5, sl5, s5, n5⟩,
      fun σ5 F5 H5 ρ5 U5 c d v x k5 sl5 s5 h5 r5 q5 => e.er σ5 F5 H5 ρ5 U5 c d v x (k23.trans k5) sl5 s5 h5 r5 q5⟩
  | false =>
    rw [if_neg Bool.false_ne_true]
    exact e.nx σ2 F3 H3 ρ2 U3 k23 (sl2.mono k3.sub) s3 (qf rfl)
theorem ev_bm0 {T : String} {r : V → List V → Hp → VK → Prop} {ta : TE} (h : EV K ta ρ U fun x U1 => (∀ v F H, Sep K F U1 H → Rp K F v x → tyV K T v H) ∧ RMW K r x [] U1 P) : EV K (tBM0 K T r ta) ρ U P := fun σ F H sl sp Q k =>
  h σ F H sl sp _ fun v x F1 U1 H1 k1 s1 r1 ⟨hty, h1⟩ => ⟨hty v F1 H1 s1 r1, h1 v [] F1 H1 s1 r1 .nil Q fun v w F3 U3 H3 k3 s3 r3 q => k v w F3 U3 H3 (k1.trans k3) s3 r3 q⟩
theorem rpAll_last {F : Hp} : ∀ {vs : List V} {ws : List W} {w : W}, RpAll K F vs (ws ++ [w]) → ∃ us v, vs = us ++ [v] ∧ RpAll K F us ws ∧ Rp K F v w
  | _, [], w, h => by
    cases h with
    | cons a t => cases t; exact ⟨[], _, rfl, .nil, a⟩
  | _, x :: ws, w, h => by
    cases h with
    | cons a t =>
      obtain ⟨us, v, rfl, r, q⟩ := rpAll_last (ws := ws) t
      exact ⟨_ :: us, v, rfl, .cons a r, q⟩
theorem rpAll_erase {F : Hp} : ∀ {vs : List V} {ws : List W} (i : Nat), RpAll K F vs ws → RpAll K F (vs.eraseIdx i) (ws.eraseIdx i)
  | _, _, _, .nil => .nil
  | _, _, 0, .cons _ t => t
  | _, _, i + 1, .cons a t => .cons a (rpAll_erase i t)
/-- xs.pop() -/
theorem rm_pop {p : Addr} {ws : List W} {w : W} (hu : U p = some (.l (ws ++ [w]))) (q : P w (put U p ws)) : RMW K rPop (.r p) [] U P := fun v vs F H sp a r Q k => by
  cases r
  obtain rfl : v = .ref p := a
  obtain ⟨_, us, e, hz, ru⟩ := sp.own p _ hu
  obtain ⟨vs, v, rfl, rv, r1⟩ := rpAll_last ru
  have hz2 : vs.length ≤ sizeLine := by rw [List.length_append] at hz; omega
  obtain ⟨s2, k2⟩ := sp.write (vs := vs) (ws := ws) hu hz2 rv
  refine ⟨p, vs ++ [v], v, rfl, rfl, e, by simp, ?_⟩
  rw [List.dropLast_concat]
  exact k v w F _ _ k2 s2 r1 q
theorem seq_nat {i n : Nat} (h : i < n) : seqIndex? (i : Int) n = some i := by
  have e := ixN_seq (n := n) (i := (i : Int)) (j := i) (by unfold ixN; rw [if_pos (by omega), if_pos (by omega)]; rfl)
  exact e.1
/-- xs.pop(i) -/
theorem rm_popAt {p : Addr} {ws : List W} {i : Nat} {w : W} (hu : U p = some (.l ws)) (hi : ws[i]? = some w) (q : P w (put U p (ws.eraseIdx i))) : RMW K rPopAt (.r p) [.i i] U P := fun v vs F H sp a r Q k => by
  cases r with
  | cons b r =>
    cases r
    cases b
    obtain rfl : v = .ref p := a
    obtain ⟨_, us, e, hz, ru⟩ := sp.own p _ hu
    have hl := rpAll_len ru
    obtain ⟨v, e1, r1⟩ := rpAll_get ru hi
    have hlt : i < us.length := (List.getElem?_eq_some_iff.mp e1).1
    obtain ⟨s2, k2⟩ := sp.write (vs := us.eraseIdx i) (ws := ws.eraseIdx i) hu (by rw [List.length_eraseIdx]; split <;> omega) (rpAll_erase i ru)
    refine ⟨p, us, (i : Int), i, v, rfl, rfl, e, by omega, ?_, seq_nat hlt, e1, k v w F _ _ k2 s2 r1 q⟩
    rw [sizeLine_eq] at hz
    omega
/-- xs.extend(ys), both may change -/
theorem rm_extendM {p b : Addr} {ws zs : List W} (hu : U p = some (.l ws)) (hb : U b = some (.l zs)) (hz : ws.length + zs.length ≤ sizeLine) (q : P (.d .none) (put U p (ws ++ zs))) : RMW K rExtend (.r p) [.r b] U P := fun v vs F H sp a r Q k => by
  cases r with
  | cons c r =>
    cases r
    obtain rfl : v = .ref p := a
    obtain rfl := c
    obtain ⟨_, us, e, _, ru⟩ := sp.own p _ hu
    obtain ⟨_, ts, e2, _, rt⟩ := sp.own b _ hb
    have hl := rpAll_len ru
    have hl2 := rpAll_len rt
    obtain ⟨s2, k2⟩ := sp.write (vs := us ++ ts) (ws := ws ++ zs) hu (by rw [List.length_append]; omega) (rpAll_app ru rt)
    exact ⟨p, b, us, ts, rfl, rfl, e, e2, by omega, k _ (.d .none) _ _ _ k2 s2 Dp.non q⟩
/-- a list that may change, as data -/
theorem Sep.dp {F H : Hp} (sp : Sep K F U H) {p : Addr} {xs : List PyData} (hu : U p = some (.l (xs.map W.d))) : ∃ vs, H p = some (.lst vs) ∧ DpAll K F vs xs ∧ Dp K H (.ref p) (.list xs) := by
  obtain ⟨_, us, e, _, ru⟩ := sp.own p _ hu
  exact ⟨us, e, rpAll_dp ru, .lst (SqL.of e) (dpAll_mono sp.sub xs us (rpAll_dp ru))⟩
theorem r2_neM {p : Addr} {xs : List PyData} {e : PyData} (hu : U p = some (.l (xs.map W.d))) (hd : SeqAt.shaped (.list xs) = true) (he : SeqAt.shaped e = true) (q : P (.b (!PyData.eqv (.list xs) e)) U) : R2W K (rNeD K) (.r p) (.d e) U P := fun v u F H sp a b Q k => by
  obtain rfl : v = .ref p := a
  obtain ⟨vs, h1, h2, h3⟩ := sp.dp hu
  exact ⟨.list xs, e, h3, dp_mono sp.sub _ _ b, hd, he, k _ (.b _) F U H .refl sp (Dp.bl _) q⟩
theorem inV_ints (s : Int) : ∀ xs : List Int, inV (.int s) (xs.map V.int) = decide (s ∈ xs)
  | [] => rfl
  | y :: ys => by
    show (eqV (.int y) (.int s) || inV (.int s) (ys.map V.int)) = _
    rw [inV_ints s ys]
    have e : eqV (.int y) (.int s) = decide (y = s) := by
      show (y == s) = _
      by_cases h : y = s <;> simp [h]
    rw [e]
    by_cases h : y = s
    · simp [h]
    · have h' : ¬ s = y := fun z => h z.symm
      simp [h, h']
theorem flat_ints (xs : List Int) : (xs.map V.int).all flatV = true := by
  rw [List.all_eq_true]
  intro y hy
  obtain ⟨z, _, rfl⟩ := List.mem_map.mp hy
  rfl
/-- k in xs, k not in xs: a list that may change, of ints -/
theorem r2_notinM {p : Addr} {k0 : Int} {ns : List Int} (hu : U p = some (.l ((ns.map PyData.int).map W.d))) (q : P (.b (!decide (k0 ∈ ns))) U) : R2W K (rIn K true) (.i k0) (.r p) U P := fun v u F H sp a b Q k => by
  cases a
  obtain rfl : u = .ref p := b
  obtain ⟨vs, h1, h2, h3⟩ := sp.dp hu
  obtain rfl := dp_ints h2
  refine ⟨p, _, rfl, .inl (SqL.of h1), rfl, flat_ints ns, ?_⟩
  show Q (.bl (if true = true then !inV (.int k0) (ns.map V.int) else _)) H
  rw [if_pos rfl, inV_ints]
  exact k _ (.b _) F U H .refl sp (Dp.bl _) q
/-- list(xs), to be changed -/
theorem rl_listM {xs : List PyData} (hz : xs.length ≤ sizeLine) (q : ∀ a, U a = none → P (.r a) (put U a (xs.map W.d))) : RLW K (rLstO K) [.d (.list xs)] U P := fun vs F H sp r Q k => by
  cases r with
  | cons a r =>
    cases r
    cases a with
    | lst ha ra =>
      rename_i A us
      refine ⟨A, us, rfl, .inl (sp.sub.seq ha), fun p hp => ?_⟩
      obtain ⟨s2, k2⟩ := sp.new hp (by rw [dpAll_len ra]; exact hz) (dp_rpAll ra)
      exact k _ (.r p) _ _ _ k2 s2 rfl (q p (sp.free hp).2)
/-- sorted(xs), ints, a list that may change -/
theorem rl_sortedM {p : Addr} {ns : List Int} (hu : U p = some (.l ((ns.map PyData.int).map W.d))) (q : ∀ ns' : List Int, ns'.Perm ns → ns'.Pairwise (· ≤ ·) → P (.l (ns'.map .int)) U) : RLW K (rSortedI K) [.r p] U P := fun vs F H sp r Q k => by
  cases r with
  | cons a r =>
    cases r
    obtain rfl := a
    obtain ⟨vs, h1, h2, h3⟩ := sp.dp hu
    obtain rfl := dp_ints h2
    refine ⟨p, ns, rfl, SqL.of h1, fun ns' b pm so hb => ?_⟩
    obtain ⟨s2, k2⟩ := sp.fix (o := .lst (ns'.map V.int)) hb
    exact k _ (.l (ns'.map .int)) _ _ _ k2 s2 (.lst (SqL.of upd_same) (rpAll_ints _)) (q ns' pm so)
theorem rl_sortedL {ns : List Int} (q : ∀ ns' : List Int, ns'.Perm ns → ns'.Pairwise (· ≤ ·) → P (.l (ns'.map .int)) U) : RLW K (rSortedI K) [.l (ns.map .int)] U P := fun vs F H sp r Q k => by
  cases r with
  | cons a r =>
    cases r
    cases a with
    | lst ha ra =>
      obtain rfl := dp_ints ra
      refine ⟨_, ns, rfl, sp.sub.seq ha, fun ns' b pm so hb => ?_⟩
      obtain ⟨s2, k2⟩ := sp.fix (o := .lst (ns'.map V.int)) hb
      exact k _ (.l (ns'.map .int)) _ _ _ k2 s2 (.lst (SqL.of upd_same) (rpAll_ints _)) (q ns' pm so)
end
end Tv

namespace Tv
open PySem PySem.Spec PyProof.Rows L2 RZ StX

/-! ### set(xs), xs a list of ints -/
abbrev MadeI (w : World) (ns : List Int) (s : Shared) (h' : Heap) : Prop :=
  (∃ c, SetR w h' s.heap.objs.size (fun j => decide (j ∈ ns)) c ∧ c ≤ ns.length) ∧ ∀ b o, s.heap.get? b = some o → h'.get? b = some o
theorem call_setLI {P : Program} {w : World} {A : Around} {E : Value → Shared → Prop} {s : Shared} {l : Addr} {its : Array Value} (ns : List Int) {Q : Value → Shared → Prop} (hh : A.handled = none) (hl : s.heap.IsList l its)
    (hit : IntsAre its.toList ns) (hb : ns.length + 1 < scanBound)
    (h : ∀ (h' : Heap) (tk : Nat), MadeI w ns s h' → Q (.ref s.heap.objs.size) { s with heap := h', toks := tk }) :
    wpAny (model P w) A (call (.type "set") [.ref l]) Q E s := by
  have q1 : its.size = ns.length := by have q := IntsAre.length hit; simpa using q
  have c1 := F.called_set.made; have c2 := F.called_set.sub
  obtain ⟨_, _, c3⟩ := F.called_set.mro
  refine wpAny_call (codeAny_of_tree (wpAny_pure ⟨Code.quiet_builtin _ (by decide +kernel), codeAny_builtin F.entry_type_call ?_⟩))
  rw [Around.under_plain (weight_type_call_type "set" [.ref l] []) rfl]
  have c4 := F.called_set.notType; have c5 := F.called_set.canCreate; have c6 := F.typeCall_set_1 (.ref l)
  repeat (any_goals (first | assumption | wp_step))
  refine codeAny_mono (code_set_led1 (.ref l) (E := E) (Q₁ := fun x s1 => x = .ref s.heap.objs.size ∧ s1 = { s with heap := s.heap.push (set0 w) }) ⟨rfl, rfl⟩) fun r s1 hr => ?_
  rcases r with _ | fl
  · exact hr
  cases fl with
  | ret x =>
    obtain ⟨rfl, rfl⟩ := hr
    have hS : (s.heap.push (set0 w)).get? s.heap.objs.size = some (set0 w) := Heap.get?_push_size _ rfl
    have hz : (s.heap.push (set0 w)).objs.size = s.heap.objs.size + 1 := Heap.size_push ..
    have c7 := F.called_set.init.lookup; have c8 := F.called_set.init.bind (.ref s.heap.objs.size)
    repeat (any_goals (first | assumption | wp_step))
    refine codeAny_mono (codeAny_call_builtin (R := wants (fun r s2 => r = Value.none ∧ ∃ h' tk, s2 = { s with heap := h', toks := tk } ∧ MadeI w ns s h') E) F.called_set.init.plain F.entry_set_init (check_set_init_1 ⟨_, hS, rfl⟩ ?_)) fun r2 s2 hr2 => ?_
    · obtain ⟨⟨_, d0, _, sl0⟩, hol, rfl, nl, rfl⟩ := hl
      have hol' := Heap.get?_push_of_some (h := s.heap) (set0 w) hol
      have hlt : l < s.heap.objs.size := Heap.lt_size hol
      have hT : (s.heap.push (set0 w)).IsList l its := ⟨_, hol', rfl, nl, rfl⟩
      have c9 := F.sub_list_set; have c10 := F.sub_list_frozenset
      have c11 : (Value.type "list" == Value.type "dict") = false := by decide
      unfold Builtin.«set.__init__» noKeywords Builtin.Frozenset.updateFrom
      generalize hPI : pyIter = PI
      wp_walk
      subst hPI
      refine wpAny_pyIter_list hT (wpAny_bind (wpAny_runValue ?_))
      have n1 : l ≠ (s.heap.push (set0 w)).objs.size := by rw [Heap.size_push]; exact Nat.ne_of_lt (Nat.lt_succ_of_lt hlt)
      have n2 : s.heap.objs.size ∉ [(s.heap.push (set0 w)).objs.size, l] := fun z => by
        rcases List.mem_cons.mp z with z | z
        · rw [Heap.size_push] at z; exact absurd z (Nat.ne_of_lt (Nat.lt_succ_self _))
        · exact absurd (List.mem_singleton.mp z) (Nat.ne_of_gt hlt)
      have W := (Walks.list (prog := P) (w := w) (A := A.in1.in1.in1) (by simp [hh]) (s.heap.push (set0 w)).objs.size l n1 its).toS
      refine set_update_ints W s.heap.objs.size n2 ns q1 hb (fun i v hv => ?_) (its.size - 0) 0 _ (by omega) (Nat.zero_le _)
        ⟨⟨_, Heap.get?_push_size _ rfl, rfl, rfl⟩, hT.push _⟩ ⟨0, Nat.le_refl 0, setR_new_at (Heap.get?_push_of_some _ hS)⟩ ?_
      · have hi : i < ns.length := by rw [← q1]; exact (Array.getElem?_eq_some_iff.mp hv).1
        obtain ⟨t, e⟩ := PyProof.Rows.IntsAre.int_at hit i v (by rw [Array.getElem?_toList]; exact hv)
        refine ⟨ns[i], t, List.getElem?_eq_getElem hi, ?_⟩
        rw [e, List.getD_eq_getElem?_getD, List.getElem?_eq_getElem hi] <;> rfl
      · rintro ⟨h', g2, d', tk', os'⟩ c' hm hc' hS'
        obtain rfl : g2 = s.gens := hm.gens
        obtain rfl : d' = s.drawn := hm.drawn
        obtain rfl : os' = s.os := hm.os
        rw [q1] at hc'
        refine wpAny_pure (wpAny_pure ⟨rfl, h', tk', rfl, ⟨c', hS', hc'⟩, fun b o e => ?_⟩)
        have hb0 : b < s.heap.objs.size := Heap.lt_size e
        refine hm.heap b o ?_ (Heap.get?_push_of_some _ (Heap.get?_push_of_some _ e))
        intro z
        rcases List.mem_cons.mp z with z | z
        · exact absurd z (Nat.ne_of_lt hb0)
        · have zz := List.mem_singleton.mp z
          rw [Heap.size_push] at zz
          subst zz
          exact absurd hb0 (Nat.lt_irrefl _ ∘ Nat.lt_of_succ_lt)
    · rcases r2 with _ | fl2
      · exact hr2
      cases fl2 with
      | ret r =>
        obtain ⟨rfl, h', tk, rfl, m⟩ := hr2
        repeat (any_goals (first | assumption | wp_step))
        exact h _ _ m
      | _ => exact hr2.elim
  | _ => exact hr.elim
def rSetLI (K : PySem.W.Frag) (w : World) : List V → Hp → VK → Prop := fun xs H Q => ∃ (l : Addr) (ns : List Int), xs = [V.ref l] ∧ SqL K H l (ns.map V.int) ∧ ns.length < 64 ∧
  ∀ a c, H a = none → c < 64 → Q (.ref a) (upd H a (SetO w a (fun j => decide (j ∈ ns)) c))
theorem cr_setLI {X : Cx} (hc : X.calm = true) : CallR X (.type "set") (rSetLI X.K X.w) := by
  intro pins s σ H xs us Q I r h
  obtain ⟨l, ns, rfl, hl, hf, q⟩ := h
  rw [Vals.ref1 r]
  obtain ⟨its, rv, pl, hz⟩ := I.list hl
  have hn : H s.heap.objs.size = none := I.hok.fresh (Nat.le_refl _)
  refine call_setLI ns (I.ok.hd hc) pl.isList (by simpa using rv.ints) (by unfold scanBound; omega) fun h' tk ⟨⟨c, R, hc'⟩, k⟩ => ?_
  exact ⟨.ref s.heap.objs.size, upd H s.heap.objs.size (SetO X.w s.heap.objs.size (fun j => decide (j ∈ ns)) c), I.laid (t' := tk) k (Nat.le_refl _) (setO_new R), rfl, q _ c hn (by omega)⟩
section
variable {X : Cx} (K : PySem.W.Frag) (w : World)
theorem bSetLI (hc : X.calm = true) (h : X.K = K := by exact rfl) (hw : X.w = w := by exact rfl) : CallR X (.type "set") (rSetLI K w) := h ▸ hw ▸ cr_setLI hc
theorem bSortS (hc : X.calm = true) (hw : X.w = w := by exact rfl) : CallR X (.builtin "sorted") (rSortedSet w) := hw ▸ cr_sortedSet hc
theorem bSortI (h : X.K = K := by exact rfl) : CallR X (.builtin "sorted") (rSortedI K) := h ▸ cr_sortedI
end
section
variable {K : PySem.W.Frag} {ρ : Rho} {U : UU} {P : W → UU → Prop} {te : TE} {w : World}
/-- sorted(set(xs)), ints -/
theorem ev_sortSI (h : EV K te ρ U fun x U1 => ∃ ns : List Int, x = .l (ns.map .int) ∧ ns.length < 64 ∧ ∀ ms : List Int, ms.Pairwise (· < ·) → (∀ k : Int, k ∈ ms ↔ k ∈ ns) → P (.l (ms.map .int)) U1) :
    EV K (tCB (rSortedSet w) (tCons (tCB (rSetLI K w) (tCons te tNil)) tNil)) ρ U P := fun σ F H sl sp Q k =>
  h σ F H sl sp _ fun v x F1 U1 H1 k1 s1 r1 ⟨ns, ex, hz, q⟩ => by
    subst ex
    cases r1 with
    | lst ha ra =>
      obtain rfl := dp_ints ra
      refine ⟨_, ns, rfl, s1.sub.seq ha, hz, fun a c hn hc => ?_⟩
      obtain ⟨s2, k2⟩ := s1.fix (o := SetO w a (fun j => decide (j ∈ ns)) c) hn
      refine ⟨a, _, c, rfl, upd_same, hc, fun ms p pw mem _ hp => ?_⟩
      obtain ⟨s3, k3⟩ := s2.fix (o := .lst (ms.map V.int)) hp
      exact k _ (.l (ms.map .int)) _ _ _ ((k1.trans k2).trans k3) s3 (.lst (SqL.of upd_same) (rpAll_ints _)) (q ms pw fun j => by rw [mem j, decide_eq_true_eq])
end
end Tv

namespace Tv
open PySem PySem.Spec PyProof.Rows L2 RZ StX

/-! ### a walk of a list or of a tuple -/
theorem PI.orW {X : Cx} {tg e : Expr} {a b : TI} (h1 : PI X tg e a) (h2 : PI X tg e b) : PI X tg e (fun σ H R => a σ H R ∨ b σ H R) := by
  refine ⟨fun pins s σ H R I h => ?_⟩
  rcases h with h | h
  · exact h1.run pins s σ H R I h
  · exact h2.run pins s σ H R I h
def iSeq (K : PySem.W.Frag) (tl : TE) : TI := fun σ H R => iList K tl σ H R ∨ iTup K tl σ H R
section
variable {K : PySem.W.Frag} {ρ : Rho} {U : UU} {PI' : Nat → (Nat → PyData) → UU → Prop}
theorem iw_seqL {tl : TE} (h : IW K (iList K tl) ρ U PI') : IW K (iSeq K tl) ρ U PI' := fun σ F H sl sp R k => .inl (h σ F H sl sp R k)
theorem iw_seqT {tl : TE} (h : IW K (iTup K tl) ρ U PI') : IW K (iSeq K tl) ρ U PI' := fun σ F H sl sp R k => .inr (h σ F H sl sp R k)
end
section
variable {X : Cx} (K : PySem.W.Frag)
theorem piS {tg l : Expr} {tl : TE} (hl : PE X l tl) (hK : X.K = K := by exact rfl) : PI X tg l (iSeq K tl) := PI.orW (piL K hl hK) (piT K hl hK)
end

/-! ### numbers in sequence -/
theorem mem_len {α : Type} [DecidableEq α] : ∀ {xs ys : List α}, xs.Nodup → (∀ x ∈ xs, x ∈ ys) → xs.length ≤ ys.length
  | [], _, _, _ => Nat.zero_le _
  | x :: xs, ys, h, s => by
    have hx := s x (List.mem_cons_self ..)
    have h2 := List.nodup_cons.mp h
    have e := mem_len (xs := xs) (ys := ys.erase x) h2.2 fun y hy => by
      have ne : y ≠ x := fun z => h2.1 (z ▸ hy)
      exact (List.mem_erase_of_ne ne).mpr (s y (List.mem_cons_of_mem _ hy))
    rw [List.length_erase_of_mem hx] at e
    have := List.length_pos_of_mem hx
    rw [List.length_cons]
    omega
theorem asc_ext : ∀ {xs ys : List Int}, xs.Pairwise (· < ·) → ys.Pairwise (· < ·) → (∀ k : Int, k ∈ xs ↔ k ∈ ys) → xs = ys
  | [], [], _, _, _ => rfl
  | [], y :: ys, _, _, h => absurd ((h y).mpr (List.mem_cons_self ..)) (by simp)
  | x :: xs, [], _, _, h => absurd ((h x).mp (List.mem_cons_self ..)) (by simp)
  | x :: xs, y :: ys, a, b, h => by
    have a' := List.pairwise_cons.mp a
    have b' := List.pairwise_cons.mp b
    have e : x = y := by
      rcases List.mem_cons.mp ((h x).mp (List.mem_cons_self ..)) with z | z
      · exact z
      · rcases List.mem_cons.mp ((h y).mpr (List.mem_cons_self ..)) with z2 | z2
        · exact z2.symm
        · have q1 := b'.1 x z
          have q2 := a'.1 y z2
          omega
    subst e
    rw [asc_ext a'.2 b'.2 fun k => ?_]
    constructor
    · intro hk
      rcases List.mem_cons.mp ((h k).mp (List.mem_cons_of_mem _ hk)) with z | z
      · have := a'.1 k hk
        omega
      · exact z
    · intro hk
      rcases List.mem_cons.mp ((h k).mpr (List.mem_cons_of_mem _ hk)) with z | z
      · have := b'.1 k hk
        omega
      · exact z
theorem asc_of {xs : List Int} (h : xs.Pairwise (· ≤ ·)) (n : xs.Nodup) : xs.Pairwise (· < ·) := lt_of_le_nodup xs h n
end Tv
namespace Tv
open PySem PySem.Spec PyProof.Rows L2 RZ StX
section
variable {K : PySem.W.Frag} {ρ : Rho} {U : UU} {PI' : Nat → (Nat → PyData) → UU → Prop}
theorem iw_S {i : Nat} {d : PyData} {xs : List PyData} (hr : ρ[i]? = some (some (.d d))) (hd : d = .tuple xs ∨ d = .list xs) (q : PI' xs.length (fun i => xs.getD i .none) U) : IW K (iSeq K (tVar i)) ρ U PI' := by
  rcases hd with rfl | rfl
  · exact iw_seqT (iw_tup (ev_var hr ⟨xs, rfl, q⟩))
  · exact iw_seqL (iw_list (ev_var hr ⟨xs, rfl, q⟩))
end
end Tv
namespace Tv
open PySem PySem.Spec PyProof.Rows L2 RZ StX
section
variable {K : PySem.W.Frag} {ρ : Rho} {U : UU} {P : W → UU → Prop} {te tl : TE} {tt : TT} {g : TG} {vs : List Nat}
/-- [e for x in t if f], t a tuple -/
theorem ev_lcFilT {α : Type} {xs : List α} {h e : α → PyData} {f : α → Bool} (hg : Own g vs) (a : EV K tl ρ U fun w U1 => w = .t (xs.map h) ∧ xs.length < sizeLine ∧
      (∀ (i : Nat) x, xs[i]? = some x → GW K g (.d (h x)) (wipeR ρ vs) U1 fun ρ2 U2 => ET K tt ρ2 U2 fun b U3 => b = f x ∧ U3 = U1 ∧ (f x = true → EV K te ρ2 U3 fun w U4 => w = .d (e x) ∧ U4 = U1)) ∧ P (.l ((xs.filter f).map e)) U1) :
    EV K (tLc (iTup K tl) g tt te vs) ρ U P := by
  refine ev_lc hg (iw_tup (ev_mono (fun w U1 z => ?_) a))
  obtain ⟨ew, hz, ht, q⟩ := z
  refine ⟨xs.map h, ew, fun i acc V => V = U1 ∧ acc = ((xs.take i).filter f).map e, ⟨rfl, rfl⟩, ?_, ?_⟩
  · rintro i acc V hi hl ⟨ev0, rfl⟩
    subst ev0
    have hi' : i < xs.length := by simpa using hi
    have hx : xs[i]? = some xs[i] := by simp [hi']
    have e0 : (xs.map h).getD i .none = h xs[i] := by simp [List.getD_eq_getElem?_getD, hi']
    show GW K g (.d ((xs.map h).getD i .none)) _ _ _
    rw [e0]
    have st : ((xs.take (i + 1)).filter f).map e = ((xs.take i).filter f).map e ++ (if f xs[i] = true then [e xs[i]] else []) := by
      rw [List.take_add_one, hx, List.filter_append, List.map_append]
      congr 1
      cases hf : f xs[i] <;> simp [hf]
    refine gw_mono (fun r u z => et_mono (fun b u z => ?_) z) (ht i _ hx)
    obtain ⟨eb, eu, z⟩ := z
    subst eb eu
    refine ⟨fun hf => ev_mono (fun w u z2 => ?_) (z hf), fun hf => ⟨rfl, ?_⟩⟩
    · obtain ⟨ew2, eu2⟩ := z2
      refine ⟨_, ew2, ?_, eu2, ?_⟩
      · have := List.length_filter_le f (xs.take i)
        rw [List.length_take] at this
        rw [List.length_map]
        omega
      · rw [st, if_pos hf]
    · rw [st, if_neg (by rw [hf]; exact Bool.false_ne_true), List.append_nil]
  · rintro acc V hl ⟨ev0, rfl⟩
    subst ev0
    rw [List.length_map, List.take_length]
    exact q
end
end Tv

namespace Tv
open PySem PySem.Spec PyProof.Rows L2 RZ StX

/-! ### dicts, more of them; truth of lists; in -/
def tTru (K : PySem.W.Frag) (ta : TE) : TT := fun σ H Q => ta σ H fun x H' => ∃ k, TruV K x H' k ∧ Q k H'
section
variable {X : Cx} (K : PySem.W.Frag)
theorem ptTru {a : Expr} {ta : TE} (ha : PE X a ta) (he : ∀ whole, isTrue a X.env whole = (do let v ← whole; standAt a.pos; holding [v] (truthy v)) := by intro _; rfl) (hK : X.K = K := by exact rfl) : PT X a (tTru K ta) := hK ▸ pt_truth ha he
def rSortedD : List V → Hp → VK → Prop := fun xs H Q => ∃ (a : Addr) (kvs : List (Key × V)) (ks : List Int), xs = [.ref a] ∧ Rd H a (.dK kvs) ∧ kvs.map (·.1) = ks.map Sum.inl ∧ ks.length < 64 ∧
    ∀ (ys : List Int) (p : Addr), ys.Perm ks → ys.Pairwise (· ≤ ·) → H p = none → Q (.ref p) (upd H p (.lst (ys.map V.int)))
theorem bSortD (hc : X.calm = true) : CallR X (.builtin "sorted") rSortedD := call_sortedDI hc
end
section
variable {K : PySem.W.Frag} {ρ : Rho} {U : UU} {P : W → UU → Prop} {PB : Bool → UU → Prop} {tk tv ta : TE}
/-- {k: v} -/
theorem ev_disp1 (h : ∀ p, U p = none → EV K tk ρ (put U p (.k [])) fun x U1 => EV K tv ρ U1 fun w U2 => ∃ key, x = .d (kD key) ∧ U2 p = some (.k []) ∧ P (.r p) (put U2 p (.k [(key, w)]))) : EV K (tDisp [(tk, tv)]) ρ U P := fun σ F H sl sp Q k p hp => by
  obtain ⟨s1, k1⟩ := sp.newB (b := .k []) (o := .dK []) hp ⟨[], upd_same, .nil⟩
  refine h p (sp.free hp).2 σ F _ (sl.mono k1.sub) s1 _ fun u x F2 U2 H2 k2 s2 r2 h2 => h2 σ F2 H2 (sl.mono (k1.sub.trans k2.sub)) s2 _ fun v w F3 U3 H3 k3 s3 r3 ⟨key, ex, hU, q⟩ => ?_
  subst ex
  obtain rfl := dp_key r2
  obtain ⟨f, ps, ha, rk⟩ := s3.own p _ hU
  cases rk
  obtain ⟨s4, k4⟩ := s3.set (b' := .k [(key, w)]) (o := .dK [(key, v)]) hU ⟨_, upd_same, .cons r3 .nil⟩
  exact ⟨ha, [(key, v)], rfl, Nat.le_add_left 1 14, k _ (.r p) F3 _ _ (((k1.trans k2).trans k3).trans k4) s4 rfl q⟩
theorem rpK_keys {F : Hp} : ∀ {ps : List (Key × V)} {kvs : List (Key × W)}, RpK K F ps kvs → ps.map (·.1) = kvs.map (·.1)
  | _, _, .nil => rfl
  | _, _, .cons _ t => by rw [List.map_cons, List.map_cons, rpK_keys t]
/-- sorted(d), keys ints -/
theorem rl_sortedD {x : W} {kvs : List (Key × W)} {ks : List Int} (hd : DkIs K U x kvs) (hk : kvs.map (·.1) = ks.map Sum.inl) (hz : ks.length < 64) (q : ∀ ys : List Int, ys.Perm ks → ys.Pairwise (· ≤ ·) → P (.l (ys.map .int)) U) : RLW K rSortedD [x] U P := fun vs F H sp r Q k => by
  cases r with
  | cons rx rr =>
    cases rr
    obtain ⟨a, ps, rfl, h1, h2⟩ := hd.at sp rx
    refine ⟨a, ps, ks, rfl, .inl h1, (rpK_keys h2).trans hk, hz, fun ys p pm so hp => ?_⟩
    obtain ⟨s2, k2⟩ := sp.fix (o := .lst (ys.map V.int)) hp
    exact k _ (.l (ys.map .int)) _ _ _ k2 s2 (.lst (SqL.of upd_same) (rpAll_ints _)) (q ys pm so)
/-- a list that may change, as a test -/
theorem et_truM {p : Addr} {ws : List W} (h : EV K ta ρ U fun x U1 => x = .r p ∧ U1 p = some (.l ws) ∧ PB (!ws.isEmpty) U1) : ET K (tTru K ta) ρ U PB := fun σ F H sl sp Q k =>
  h σ F H sl sp _ fun v x F1 U1 H1 k1 s1 r1 ⟨ex, hu, q⟩ => by
    subst ex
    obtain rfl := r1
    obtain ⟨_, us, e, _, ru⟩ := s1.own p _ hu
    have e2 : ws.isEmpty = us.isEmpty := by cases ru <;> rfl
    exact ⟨!ws.isEmpty, .inl ⟨us, SqL.of e, by rw [e2]⟩, k _ F1 U1 H1 k1 s1 q⟩
theorem et_truD {xs : List PyData} (h : EV K ta ρ U fun x U1 => (x = .t xs ∨ x = .l xs) ∧ PB (!xs.isEmpty) U1) : ET K (tTru K ta) ρ U PB := fun σ F H sl sp Q k =>
  h σ F H sl sp _ fun v x F1 U1 H1 k1 s1 r1 ⟨ex, q⟩ => by
    rcases ex with rfl | rfl
    · cases r1 with
      | tup ha ra =>
        rename_i A us
        have e2 : xs.isEmpty = us.isEmpty := by cases ra <;> rfl
        exact ⟨!xs.isEmpty, .inr (.inl ⟨us, sqt_mono s1.sub ha, by rw [e2]⟩), k _ F1 U1 H1 k1 s1 q⟩
    · cases r1 with
      | lst ha ra =>
        rename_i A us
        have e2 : xs.isEmpty = us.isEmpty := by cases ra <;> rfl
        exact ⟨!xs.isEmpty, .inl ⟨us, s1.sub.seq ha, by rw [e2]⟩, k _ F1 U1 H1 k1 s1 q⟩
/-- k in xs: a list or a tuple of ints -/
theorem r2_inD {neg : Bool} {k0 : Int} {ns : List Int} {d : PyData} (hd : d = .tuple (ns.map .int) ∨ d = .list (ns.map .int)) (q : P (.b (if neg then !decide (k0 ∈ ns) else decide (k0 ∈ ns))) U) : R2W K (rIn K neg) (.i k0) (.d d) U P := fun v u F H sp a b Q k => by
  cases a
  have fin : ∀ p, (SqL K H p (ns.map V.int) ∨ SqT K H p (ns.map V.int)) → rIn K neg (.int k0) (.ref p) H Q := fun p hp => by
    refine ⟨p, _, rfl, hp, rfl, flat_ints ns, ?_⟩
    rw [inV_ints]
    exact k _ (.b _) F U H .refl sp (Dp.bl _) q
  rcases hd with rfl | rfl
  · cases b with
    | tup ha ra =>
      obtain rfl := dp_ints ra
      exact fin _ (.inr (sqt_mono sp.sub ha))
  · cases b with
    | lst ha ra =>
      obtain rfl := dp_ints ra
      exact fin _ (.inl (sp.sub.seq ha))
end
end Tv
namespace Tv
open PySem PySem.Spec PyProof.Rows L2 RZ StX
section
variable {X : Cx} {td ty tv : TE} {i o value : Expr} {pos pos' : Pos}
theorem pcDIn (hu : X.A.units + 70 < cLine) (hi : PE X i ty) (ho : PE X o td) : PC X .In i o (tDIn ty td) := pc_din (by omega) hi ho
theorem pcDNotIn (hu : X.A.units + 70 < cLine) (hi : PE X i ty) (ho : PE X o td) : PC X .NotIn i o (tDNotIn ty td) := pc_dnotin (by omega) hi ho
theorem peDGet (hu : X.A.units + 70 < cLine) (ho : PE X o td) (hi : PE X i ty) (hs : NoSl i) : PE X (.Subscript o i pos) (tDGet td ty) := pe_dget (by omega) ho hi hs
theorem psDPut (hu : X.A.units + 70 < cLine) (ho : PE X o td) (hi : PE X i ty) (hv : PE X value tv) (hs : swapsWith value (some (.Subscript o i pos')) pos.line X.env = pure false) :
    PS X (.Assign [.Subscript o i pos'] value pos) (sDPut td ty tv) := ps_dput (by omega) ho hi hv hs
end
section
variable {K : PySem.W.Frag} {U : UU} {P : W → UU → Prop}
/-- list(t), list(xs): never changed -/
theorem rl_listD {xs : List PyData} {d : PyData} (hd : d = .tuple xs ∨ d = .list xs) (q : P (.l xs) U) : RLW K (rLstO K) [.d d] U P := fun vs F H sp r Q k => by
  cases r with
  | cons a r =>
    cases r
    have fin : ∀ (A : Addr) (us : List V), (SqL K H A us ∨ SqT K H A us) → DpAll K F us xs → rLstO K [V.ref A] H Q := fun A us h ra => by
      refine ⟨A, us, rfl, h, fun p hp => ?_⟩
      obtain ⟨s2, k2⟩ := sp.fix (o := .lst us) hp
      exact k _ (.l xs) _ _ _ k2 s2 (.lst (SqL.of upd_same) (dpAll_mono k2.sub _ _ ra)) q
    rcases hd with rfl | rfl
    · cases a with
      | tup ha ra => exact fin _ _ (.inr (sqt_mono sp.sub ha)) ra
    · cases a with
      | lst ha ra => exact fin _ _ (.inl (sp.sub.seq ha)) ra
end
end Tv
namespace Tv
open PySem PySem.Spec PyProof.Rows L2 RZ StX
/-- forgetting, behind an expression -/
theorem ev_less {K : PySem.W.Frag} {ρ : Rho} {U : UU} {P : W → UU → Prop} {te : TE} (h : EV K te ρ U fun w V => ∃ U', (∀ a b, U' a = some b → V a = some b) ∧ P w U') : EV K te ρ U P := fun σ F H sl sp Q k =>
  h σ F H sl sp Q fun v w F2 U2 H2 k2 s2 r2 ⟨U', hu, q⟩ => k v w F2 U' H2 ⟨k2.sub, fun b o hb hf hub => by
    obtain ⟨a1, a2, a3⟩ := k2.rest b o hb hf hub
    refine ⟨a1, a2, ?_⟩
    cases z : U' b with
    | none => rfl
    | some ws => rw [hu b ws z] at a3; cases a3⟩ (s2.less hu) r2 q
end Tv

namespace Tv
open PySem PySem.Spec PyProof.Rows L2 RZ StX

/-! ### texts as data -/
def rAddS : R2 := fun x y H Q => ∃ i j, x = .str i ∧ y = .str j ∧ i.length + j.length ≤ sizeLine ∧ Q (.str (i ++ j)) H
def rInS (neg : Bool) : R2 := fun x y H Q => ∃ (c : Nat) (z : Str), x = .str ⟨#[c]⟩ ∧ y = .str z ∧ Q (.bl (if neg then !decide (c ∈ z.cps.toList) else decide (c ∈ z.cps.toList))) H
def rStrI : List V → Hp → VK → Prop := fun xs H Q => ∃ i : Int, xs = [.int i] ∧ i.natAbs.log2 < 1920 ∧ Q (.str (toString i)) H
def rIntS : List V → Hp → VK → Prop := fun xs H Q => ∃ a n, xs = [.str a] ∧ PySem.intText? a = some n ∧ a.length ≤ 640 ∧ Q (.int n) H
def rSplit : V → List V → Hp → VK → Prop := fun x xs H Q => ∃ a b, x = .str a ∧ xs = [.str b] ∧ (b.length == 0) = false ∧ a.length + 2 ≤ sizeLine ∧ rNewStrs (Txt.split a b) H Q
def rJoin (K : PySem.W.Frag) : V → List V → Hp → VK → Prop := fun x xs H Q => ∃ a p, ∃ ys : List Str, x = .str a ∧ xs = [.ref p] ∧ (SqL K H p (ys.map V.str) ∨ SqT K H p (ys.map V.str)) ∧ (ys.map (·.length)).sum + ys.length * a.length ≤ 16777216 ∧ Q (.str (Txt.join a ys)) H
section
variable {X : Cx} (K : PySem.W.Frag)
theorem opAddS : OpR X (binaryOp .Add) rAddS := op_add_str
theorem opInS : OpR X (compareOp .In) (rInS false) := op_in_sign
theorem opNotInS : OpR X (compareOp .NotIn) (rInS true) := op_notIn_sign
theorem bStrI : CallR X (.type "str") rStrI := call_str_int
theorem bIntS : CallR X (.type "int") rIntS := call_int_str
theorem peSplit {o e : Expr} {to te : TE} {apos pos : Pos} (ho : PE X o to) (he : PE X e te) (hs : starEach [e] X.env = [(false, eval e X.env)] := by rfl) (hbase : attributeBase o "split" X.env (eval o X.env) = eval o X.env := by rfl) (hline : (apos.endLine == pos.line) = true := by rfl) :
    PE X (.Call (.Attribute o "split" apos) [e] [] pos) (tM1 rSplit to te) := pe_split ho he hs hbase hline
theorem peJoin {o e : Expr} {to te : TE} {apos pos : Pos} (ho : PE X o to) (he : PE X e te) (hs : starEach [e] X.env = [(false, eval e X.env)] := by rfl) (hbase : attributeBase o "join" X.env (eval o X.env) = eval o X.env := by rfl) (hline : (apos.endLine == pos.line) = true := by rfl) (hK : X.K = K := by exact rfl) :
    PE X (.Call (.Attribute o "join" apos) [e] [] pos) (tM1 (rJoin K) to te) := hK ▸ pe_join ho he hs hbase hline
end
/-- o[i], o a list or a text -/
def rIxLS (K : PySem.W.Frag) : R2 := fun x y H Q => rIxL K x y H Q ∨ rIxS x y H Q
theorem ixLS {X : Cx} (K : PySem.W.Frag) (h : X.K = K := by exact rfl) : IxR X (rIxLS K) := by
  intro value slice pins s σ H x y v u Q I rx ry q hs
  rcases q with q | q
  · exact (h ▸ ix_list (X := X)) value slice pins s σ H x y v u Q I rx ry (h ▸ q) hs
  · exact ix_str value slice pins s σ H x y v u Q I rx ry q hs
section
variable {K : PySem.W.Frag} {ρ : Rho} {U : UU} {P : W → UU → Prop} {PI' : Nat → (Nat → PyData) → UU → Prop} {te to ty : TE} {tl th : TO}
theorem r2_addS {i j : Str} (hz : i.length + j.length ≤ sizeLine) (q : P (.s (i ++ j)) U) : R2W K rAddS (.s i) (.s j) U P := fun v u F H sp a b Q k => by
  cases a; cases b
  exact ⟨i, j, rfl, rfl, hz, k _ (.s _) F U H .refl sp (Dp.str _) q⟩
theorem r2_inS {neg : Bool} {c : Nat} {z : Str} (q : P (.b (if neg then !decide (c ∈ z.cps.toList) else decide (c ∈ z.cps.toList))) U) : R2W K (rInS neg) (.s ⟨#[c]⟩) (.s z) U P := fun v u F H sp a b Q k => by
  cases a; cases b
  exact ⟨c, z, rfl, rfl, k _ (.b _) F U H .refl sp (Dp.bl _) q⟩
theorem rl_strI {i : Int} (hz : i.natAbs.log2 < 1920) (q : P (.s (toString i)) U) : RLW K rStrI [.i i] U P := fun vs F H sp r Q k => by
  cases r with
  | cons a r => cases r; cases a; exact ⟨i, rfl, hz, k _ (.s _) F U H .refl sp (Dp.str _) q⟩
theorem rl_intS {a : Str} {n : Int} (h : PySem.intText? a = some n) (hz : a.length ≤ 640) (q : P (.i n) U) : RLW K rIntS [.s a] U P := fun vs F H sp r Q k => by
  cases r with
  | cons b r => cases r; cases b; exact ⟨a, n, rfl, h, hz, k _ (.i _) F U H .refl sp (Dp.int _) q⟩
theorem rpAll_strs {F : Hp} : ∀ xs : List Str, DpAll K F (xs.map V.str) (xs.map PyData.str)
  | [] => .nil
  | x :: xs => .cons (Dp.str x) (rpAll_strs xs)
theorem ev_m1 {r : V → List V → Hp → VK → Prop} (h : EV K to ρ U fun x U1 => ∃ a : Str, x = .s a ∧ EV K te ρ U1 fun y U2 => RMW K r (.s a) [y] U2 P) : EV K (tM1 r to te) ρ U P := fun σ F H sl sp Q k =>
  h σ F H sl sp _ fun v x F1 U1 H1 k1 s1 r1 ⟨a, ex, h1⟩ => by
    subst ex
    cases r1
    exact ⟨⟨a, rfl⟩, h1 σ F1 H1 (sl.mono k1.sub) s1 _ fun u y F2 U2 H2 k2 s2 r2 h2 => h2 _ [u] F2 H2 s2 (Dp.str a) (.cons r2 .nil) Q fun v w F3 U3 H3 k3 s3 r3 q => k v w F3 U3 H3 ((k1.trans k2).trans k3) s3 r3 q⟩
/-- a.split(b) -/
theorem rm_split {a b : Str} (hb : (b.length == 0) = false) (hz : a.length + 2 ≤ sizeLine) (q : P (.l ((Txt.split a b).map .str)) U) : RMW K rSplit (.s a) [.s b] U P := fun v vs F H sp ra rr Q k => by
  cases ra
  cases rr with
  | cons r rr =>
    cases rr
    cases r
    refine ⟨a, b, rfl, rfl, hb, hz, fun p hp => ?_⟩
    obtain ⟨s3, k3⟩ := sp.fix (o := .lst ((Txt.split a b).map V.str)) hp
    exact k _ (.l _) _ _ _ k3 s3 (.lst (SqL.of upd_same) (rpAll_strs _)) q
/-- a.join(ys), ys a list or a tuple -/
theorem rm_join {a : Str} {ys : List Str} {d : PyData} (hd : d = .tuple (ys.map .str) ∨ d = .list (ys.map .str)) (hz : (ys.map (·.length)).sum + ys.length * a.length ≤ 16777216) (q : P (.s (Txt.join a ys)) U) : RMW K (rJoin K) (.s a) [.d d] U P := fun v vs F H sp ra rr Q k => by
  cases ra
  cases rr with
  | cons r rr =>
    cases rr
    have fin : ∀ p, (SqL K H p (ys.map V.str) ∨ SqT K H p (ys.map V.str)) → rJoin K (.str a) [.ref p] H Q := fun p hp => ⟨a, p, ys, rfl, rfl, hp, hz, k _ (.s _) F U H .refl sp (Dp.str _) q⟩
    rcases hd with rfl | rfl
    · cases r with
      | tup ha ra =>
        obtain rfl := dp_strs ra
        exact fin _ (.inr (sqt_mono sp.sub ha))
    · cases r with
      | lst ha ra =>
        obtain rfl := dp_strs ra
        exact fin _ (.inl (sp.sub.seq ha))
theorem rm_joinM {a : Str} {ys : List Str} {p : Addr} (hu : U p = some (.l ((ys.map PyData.str).map W.d))) (hz : (ys.map (·.length)).sum + ys.length * a.length ≤ 16777216) (q : P (.s (Txt.join a ys)) U) : RMW K (rJoin K) (.s a) [.r p] U P := fun v vs F H sp ra rr Q k => by
  cases ra
  cases rr with
  | cons r rr =>
    cases rr
    obtain rfl := r
    obtain ⟨us, h1, h2, h3⟩ := sp.dp hu
    obtain rfl := dp_strs h2
    exact ⟨a, p, ys, rfl, rfl, .inl (SqL.of h1), hz, k _ (.s _) F U H .refl sp (Dp.str _) q⟩
/-- z[lo:hi] -/
theorem ev_slS (h : EV K te ρ U fun x U1 => EO K tl ρ U1 fun lo U2 => EO K th ρ U2 fun hi U3 => ∃ z : Str, x = .s z ∧ z.length ≤ sizeLine ∧ P (.s (cutS z lo hi)) U3) : EV K (tSl rSlS te tl th) ρ U P := fun σ F H sl sp Q k =>
  h σ F H sl sp _ fun v x F1 U1 H1 k1 s1 r1 h1 => h1 σ F1 H1 (sl.mono k1.sub) s1 _ fun lo F2 U2 H2 k2 s2 h2 => h2 σ F2 H2 (sl.mono (k1.sub.trans k2.sub)) s2 _ fun hi F3 U3 H3 k3 s3 ⟨z, ex, hz, q⟩ => by
    subst ex
    cases r1
    exact ⟨z, rfl, hz, k _ (.s _) F3 U3 H3 ((k1.trans k2).trans k3) s3 (Dp.str _) q⟩
/-- z[i] -/
theorem r2_ixS {z : Str} {i : Int} {c : Nat} (hz : z.length ≤ sizeLine) (h : atI z.cps.toList i = some c) (q : P (.s ⟨#[c]⟩) U) : R2W K rIxS (.s z) (.i i) U P := fun v u F H sp a b Q k => by
  cases a; cases b
  exact ⟨z, i, c, rfl, rfl, hz, h, k _ (.s _) F U H .refl sp (Dp.str _) q⟩
theorem r2_ixLS_l {xs : List PyData} {i : Int} {x : PyData} (h : atI xs i = some x) (q : P (.d x) U) : R2W K (rIxLS K) (.l xs) (.i i) U P := fun v u F H sp a b Q k => .inl (r2_ixL h q v u F H sp a b Q k)
theorem r2_ixLS_s {z : Str} {i : Int} {c : Nat} (hz : z.length ≤ sizeLine) (h : atI z.cps.toList i = some c) (q : P (.s ⟨#[c]⟩) U) : R2W K (rIxLS K) (.s z) (.i i) U P := fun v u F H sp a b Q k => .inr (r2_ixS hz h q v u F H sp a b Q k)
/-- for c in z -/
theorem iw_str (h : EV K te ρ U fun x U1 => ∃ z : Str, x = .s z ∧ PI' z.cps.toList.length (fun i => .str ⟨#[z.cps.toList.getD i 0]⟩) U1) : IW K (iStr te) ρ U PI' := fun σ F H sl sp R k =>
  h σ F H sl sp _ fun v x F1 U1 H1 k1 s1 r1 ⟨z, ex, q⟩ => by
    subst ex
    cases r1
    refine ⟨z, rfl, k _ F1 U1 H1 _ _ k1 s1 ⟨fun i H hi _ => (show i < z.cps.size by simpa using hi), fun H _ => (show z.cps.size ≤ z.cps.toList.length by simp), fun i F2 U2 H2 v H3 hi sub s2 y => ?_⟩ q⟩
    obtain ⟨rfl, c, e, rfl⟩ := y
    have e2 : z.cps.toList.getD i 0 = c := by
      rw [List.getD_eq_getElem?_getD, Array.getElem?_toList, e] <;> rfl
    exact ⟨F2, .refl, s2, by rw [e2]; exact Dp.str _⟩
/-- s in ts, ts a list or a tuple of texts -/
theorem r2_inSs {neg : Bool} {s : Str} {xs : List Str} {d : PyData} (hd : d = .tuple (xs.map .str) ∨ d = .list (xs.map .str)) (q : P (.b (if neg then !decide (s ∈ xs) else decide (s ∈ xs))) U) : R2W K (rIn K neg) (.s s) (.d d) U P := fun v u F H sp a b Q k => by
  cases a
  have fin : ∀ p, (SqL K H p (xs.map V.str) ∨ SqT K H p (xs.map V.str)) → rIn K neg (.str s) (.ref p) H Q := fun p hp => by
    refine ⟨p, _, rfl, hp, rfl, ?_, ?_⟩
    · rw [List.all_eq_true]
      intro y hy
      obtain ⟨z, _, rfl⟩ := List.mem_map.mp hy
      rfl
    · rw [inV_strs]
      exact k _ (.b _) F U H .refl sp (Dp.bl _) q
  rcases hd with rfl | rfl
  · cases b with
    | tup ha ra =>
      obtain rfl := dp_strs ra
      exact fin _ (.inr (sqt_mono sp.sub ha))
  · cases b with
    | lst ha ra =>
      obtain rfl := dp_strs ra
      exact fin _ (.inl (sp.sub.seq ha))
theorem r2_inSsM {neg : Bool} {s : Str} {xs : List Str} {p : Addr} (hu : U p = some (.l ((xs.map PyData.str).map W.d))) (q : P (.b (if neg then !decide (s ∈ xs) else decide (s ∈ xs))) U) : R2W K (rIn K neg) (.s s) (.r p) U P := fun v u F H sp a b Q k => by
  cases a
  obtain rfl : u = .ref p := b
  obtain ⟨us, h1, h2, h3⟩ := sp.dp hu
  obtain rfl := dp_strs h2
  refine ⟨p, _, rfl, .inl (SqL.of h1), rfl, ?_, ?_⟩
  · rw [List.all_eq_true]
    intro y hy
    obtain ⟨z, _, rfl⟩ := List.mem_map.mp hy
    rfl
  · rw [inV_strs]
    exact k _ (.b _) F U H .refl sp (Dp.bl _) q
end
end Tv
namespace Tv
open PySem PySem.Spec PyProof.Rows L2 RZ StX
section
variable {K : PySem.W.Frag} {ρ : Rho} {U : UU} {P : W → UU → Prop} {te tl : TE} {tt : TT} {g : TG} {vs : List Nat}
/-- [e for c in z], z a text -/
theorem ev_lcS {f : Nat → PyData} (hg : Own g vs) (a : EV K tl ρ U fun w U1 => ∃ z : Str, w = .s z ∧ z.length < sizeLine ∧ (∀ c ∈ z.cps.toList, Turn1 K g tt te (wipeR ρ vs) U1 (.str ⟨#[c]⟩) (f c)) ∧ P (.l (z.cps.toList.map f)) U1) : EV K (tLc (iStr tl) g tt te vs) ρ U P := by
  refine ev_lcF hg (iw_str (ev_mono (fun w u z => ?_) a))
  obtain ⟨z, rfl, hn, ht, q⟩ := z
  refine ⟨z, rfl, atF z.cps.toList fun _ c => f c, by simpa [Str.length] using hn, fun i hi => ?_, by rw [atF_map]; exact q⟩
  have e : z.cps.toList[i]? = some z.cps.toList[i] := by simp [hi]
  have e1 : z.cps.toList.getD i 0 = z.cps.toList[i] := by rw [List.getD_eq_getElem?_getD, e] <;> rfl
  have e2 : atF z.cps.toList (fun _ c => f c) i = f z.cps.toList[i] := by simp [atF, e]
  show Turn1 K g tt te _ _ (.str ⟨#[z.cps.toList.getD i 0]⟩) _
  rw [e1, e2]
  exact ht _ (List.getElem_mem hi)
end
end Tv

namespace Tv
open PySem PySem.Spec PyProof.Rows L2 RZ StX

/-! ### enumerate(xs, start=k) -/
def IteS (K : PySem.W.Frag) (a : Addr) (k : Int) : It :=
  ⟨fun i H => ∃ (xs : List V) (x : V), SqL K H a xs ∧ xs[i]? = some x, fun i H v H' => ∃ T x, v = .ref T ∧ H T = none ∧ H' = upd H T (.tup [.int (k + (i : Nat)), x]) ∧ ∀ xs, SqL K H a xs → xs[i]? = some x, fun i H => ∃ xs : List V, SqL K H a xs ∧ xs.length = i⟩
theorem turn_enumS {P : Program} {w : World} {K : PySem.W.Frag} {elts : List Expr} {kk : Nat} {tpos : Pos} (a e it : Addr) (k : Int) :
    Turn P w K (.Tuple elts kk tpos) (IteS K a k) [e, it] e (fun i h => (∃ old, IsEnum h e it (k + (i : Int)) old) ∧ h.IsListIter it a i ∧ e ≠ it ∧ a ≠ it ∧ a ≠ e) where
  mem := by simp
  obj := fun i h st b hb => by
    obtain ⟨⟨old, he⟩, ⟨o, ho, hc, hd⟩, _⟩ := st
    rcases (show b = e ∨ b = it by simpa using hb) with z | z
    · rw [z]; exact ⟨_, he, fun v q => nomatch q⟩
    · rw [z]; exact ⟨o, ho, fun v q => by rw [hd] at q; cases q⟩
  keep := fun i h h' st kp => let ⟨⟨old, he⟩, hi, hne⟩ := st; ⟨⟨old, kp e (by simp) _ he⟩, hi.at fun o q => kp it (by simp) o q, hne⟩
  item := by
    intro X hP hw hK hc i pins s σ H E I hf st hg
    subst hP hw hK
    obtain ⟨⟨old, he⟩, hit, hne, hai, hae⟩ := st
    obtain ⟨xs, x, hq, hx⟩ := hg
    obtain ⟨its, rv, p, hz⟩ := I.list hq
    obtain ⟨u, hu, ru⟩ := rv.get hx
    have hel : e < s.heap.objs.size := Heap.lt_size he
    have hil : it < s.heap.objs.size := by obtain ⟨_, q, _⟩ := hit; exact Heap.lt_size q
    have hhd := I.ok.hd hc
    have hlt : i < its.toArray.size := by
      have := (List.getElem?_eq_some_iff.mp hu).1
      simpa using this
    refine wpAny_pyNext_enum_itemC (Draws.list (prog := X.prog) (w := X.w) (A := X.A.in1) (by simp [hhd]) it a hai its.toArray) he ⟨hit, p.isList⟩ hlt hne (by simp [hne, Ne.symm hae]) fun y h' tk hy ho hst' hT hsz hk => ?_
    have hyu : y = u := by
      have e1 : its.toArray[i]? = some u := by simpa using hu
      rw [e1] at hy
      exact (Option.some.inj hy).symm
    subst hyu
    refine ⟨_, rfl, wpAny_letOwnedTupleGo_enum (s := { s with heap := h', toks := tk + 1 }) ho fun h'' he' sb => ?_⟩
    have hT2 : h''.get? s.heap.objs.size = some { cls := .type "tuple", data := .seq #[.int (k + (i : Int)) tk, y] } := (sb.2 _ (Nat.ne_of_gt hel)).trans hT
    have new : ObjOk X.prog X.w (upd H s.heap.objs.size (.tup [.int (k + (i : Nat)), x])) h'' s.heap.objs.size (.tup [.int (k + (i : Nat)), x]) :=
      ⟨by show 2 ≤ sizeLine; decide, [.int (k + (i : Int)) tk, y], .cons ⟨_, rfl⟩ (.cons ru .nil), ⟨_, hT2, rfl, _, rfl⟩⟩
    have I1 : Inv X pins σ (upd H s.heap.objs.size (.tup [.int (k + (i : Nat)), x])) { s with heap := h'', toks := tk + 1 } :=
      I.turnedNew (ch := [e, it]) (fun b ob hb q => (sb.2 b (fun z => hb (by simp [z]))).trans (hk b ob (fun z => hb (by simp [z])) (fun z => hb (by simp [z])) q)) hf (Nat.le_refl _) new
    refine ⟨.ref s.heap.objs.size, _, I1, rfl, ⟨_, x, rfl, I.hok.fresh (Nat.le_refl _), rfl, fun ys hy => by rw [I.list_inj hy hq]; exact hx⟩, ⟨⟨y, ?_⟩, hst'.1.at fun o q => (sb.2 it (Ne.symm hne)).trans q, hne, hai, hae⟩, fun b hb => ?_⟩
    · have e1 : k + ((i + 1 : Nat) : Int) = k + (i : Int) + 1 := by omega
      rw [e1]; exact he'
    · have hb' : b < s.heap.objs.size := by
        rcases (show b = e ∨ b = it by simpa using hb) with z | z
        · rw [z]; exact hel
        · rw [z]; exact hil
      rw [upd_ne (Nat.ne_of_lt hb')]
      exact (hf b hb).1
  done := by
    intro X hP hw hK hc i pins s σ H E I hf st hg
    subst hP hw hK
    obtain ⟨⟨old, he⟩, hit, hne, hai, hae⟩ := st
    obtain ⟨xs, hq, hx⟩ := hg
    obtain ⟨its, rv, p, hz⟩ := I.list hq
    obtain ⟨f0, f1, f2, f3, f4, f5⟩ := hf it (by simp)
    have hl := rv.length
    have hhd := I.ok.hd hc
    have hi : i = its.toArray.size := by rw [List.size_toArray]; omega
    have hit' : s.heap.IsListIter it a its.toArray.size := hi ▸ hit
    exact wpAny_pyNext_enum_endD (Draws.list (prog := X.prog) (w := X.w) (A := X.A.in1) (by simp [hhd]) it a hai its.toArray) he ⟨hit', p.isList⟩ fun h' eb => ⟨rfl, I.turned (t' := s.toks) (fun b o hb q => eb b o hb q) f0 f1 f3 f4 f5⟩
  self := fun A i s Q E st h => let ⟨⟨_, he⟩, _⟩ := st; wpAny_pyIter_enum he h
theorem callWith_typeKw {M : Model} {A : Around} {E : Value → Shared → Prop} {s : Shared} {pos : Pos} {T : String} {first : List Value} {args : List (Bool × Sem Value)} {kws : List (Option Str × Sem Value)} {Q : Value → Shared → Prop} (hplain : args.any (·.1) = false) (hk : kws.any (·.1.isNone) = false)
    (h : wpAny M A (evalArgs (.type T) true args kws) (fun a s₁ => wpAny M A (call (.type T) (first ++ a.pos) a.kw) Q E s₁) E s) :
    wpAny M A (callWith pos (.type T) first args kws) Q E s := by
  unfold callWith
  refine wpAny_bind (wpAny_holding (wpAny_mono h (fun a s₁ h₁ => wpAny_bind (wpAny_standAt ?_)) fun _ _ x => x))
  simp only [hplain, hk, Bool.or_false]
  refine wpAny_bind (wpAny_pure ?_)
  exact wpAny_bind (wpAny_mono h₁ (fun r s₂ hr => wpAny_bind (wpAny_holding (wpAny_point (wpAny_pure hr)))) fun _ _ x => x)
end Tv
namespace Tv
open PySem PySem.Spec PyProof.Rows L2 RZ StX
def iEnumS (K : PySem.W.Frag) (ta tk : TA) : TI := fun σ H R => ta σ H fun vs H1 => tk σ H1 fun zs H2 => ∃ a xs k, vs = [.ref a] ∧ zs = [.int k] ∧ -(2 ^ 63) ≤ k ∧ k < 2 ^ 63 ∧ SqL K H2 a xs ∧ R (IteS K a k) H2
theorem pi_enumS {X : Cx} {e : Expr} {ta tk : TA} {p pos tpos : Pos} {elts : List Expr} {kk : Nat} {kws : List Keyword} (hg : Gl X "enumerate") (hm : X.mg "enumerate" = none) (ha : PA X [e] ta) (hkw : PK X kws tk)
    (hs : starEach [e] X.env = (false, eval e X.env) :: starEach [] X.env := by rfl)
    (hall : (backToKw pos (keywordEach kws X.env)).all (·.1.isSome) = true := by rfl)
    (hks : (backToKw pos (keywordEach kws X.env)).filterMap (·.1) = [Str.ofString "start"] := by rfl)
    (hn : (backToKw pos (keywordEach kws X.env)).any (·.1.isNone) = false := by rfl)
    (hpl : (backTo pos (starEach [e] X.env)).any (·.1) = false := by rfl) :
    PI X (.Tuple elts kk tpos) (.Call (.Name "enumerate" p) [e] kws pos) (iEnumS X.K ta tk) := by
  refine ⟨fun pins s σ H R I h => ?_⟩
  refine wpAny_Call_Name_kw (ld_blt I hg hm boot_enumerate (callWith_typeKw hpl hn (evalArgs_kw2 hall (thn (ha.run pos pins s σ H _ I h) ?_) hs)))
  rintro us s1 ⟨vs, H1, I1, r, q⟩
  refine thn (hkw.run pos pins s1 σ H1 _ I1 q) ?_
  rintro ws s2 ⟨zs, H2, I2, rz, a, xs, k, rfl, rfl, hk0, hk1, hq, q⟩
  rw [hks]
  cases r with
  | cons r rr =>
    cases rr
    cases r
    cases rz with
    | cons r2 rr =>
      cases rr
      obtain ⟨t, rfl⟩ := r2
      obtain ⟨its, rv, p', hz⟩ := I2.list hq
      have p2 : s2.heap.get? a ≠ none := by
        obtain ⟨o, ho, _⟩ := p'.isList
        rw [ho]
        simp
      have al : a < s2.heap.objs.size := by
        obtain ⟨o, ho, _⟩ := p'.isList
        exact Heap.lt_size ho
      refine enum_begins_start (begins_list a its.toArray) p'.isList hk0 hk1 fun h' he hit hsz hk => wpAny_pyIter_enum he ?_
      refine ⟨s2.heap.objs.size + 1, [s2.heap.objs.size + 1, s2.heap.objs.size], _, _, H2, rfl, I2.kept (t' := s2.toks) hk,
        turn_enumS a (s2.heap.objs.size + 1) s2.heap.objs.size k, ⟨⟨.none, by simpa using he⟩, ⟨_, hit, rfl, rfl⟩, Nat.succ_ne_self _, Nat.ne_of_lt al, Nat.ne_of_lt (Nat.lt_succ_of_lt al)⟩, fun b hb => ?_, q⟩
      have hle : s2.heap.objs.size ≤ b := by
        rcases (show b = s2.heap.objs.size + 1 ∨ b = s2.heap.objs.size by simpa using hb) with z | z <;> rw [z]
        · exact Nat.le_add_right _ _
        · exact Nat.le_refl _
      exact I2.fpOk hle (I2.hok.fresh hle)
end Tv
namespace Tv
open PySem PySem.Spec PyProof.Rows L2 RZ StX
section
variable {X : Cx} (K : PySem.W.Frag)
theorem piEnS {e : Expr} {ta tk : TA} {p pos tpos : Pos} {elts : List Expr} {kk : Nat} {kws : List Keyword} (hg : Gl X "enumerate") (hm : X.mg "enumerate" = none) (ha : PA X [e] ta) (hkw : PK X kws tk)
    (hs : starEach [e] X.env = (false, eval e X.env) :: starEach [] X.env := by rfl)
    (hall : (backToKw pos (keywordEach kws X.env)).all (·.1.isSome) = true := by rfl)
    (hks : (backToKw pos (keywordEach kws X.env)).filterMap (·.1) = [Str.ofString "start"] := by rfl)
    (hn : (backToKw pos (keywordEach kws X.env)).any (·.1.isNone) = false := by rfl)
    (hpl : (backTo pos (starEach [e] X.env)).any (·.1) = false := by rfl) (hK : X.K = K := by exact rfl) :
    PI X (.Tuple elts kk tpos) (.Call (.Name "enumerate" p) [e] kws pos) (iEnumS K ta tk) := hK ▸ pi_enumS hg hm ha hkw hs hall hks hn hpl
end
theorem iw_enumS {K : PySem.W.Frag} {ρ : Rho} {U : UU} {PI' : Nat → (Nat → PyData) → UU → Prop} {ta tk : TA}
    (h : EA K ta ρ U fun ws U1 => EA K tk ρ U1 fun zs U2 => ∃ xs k, ws = [.l xs] ∧ zs = [.i k] ∧ -(2 ^ 63) ≤ k ∧ k < 2 ^ 63 ∧ PI' xs.length (fun i => .tuple [.int (k + (i : Nat)), xs.getD i .none]) U2) : IW K (iEnumS K ta tk) ρ U PI' := fun σ F H sl sp R k =>
  h σ F H sl sp _ fun vs ws F1 U1 H1 k1 s1 r1 h1 => h1 σ F1 H1 (sl.mono k1.sub) s1 _ fun us zs F2 U2 H2 k2 s2 r2 ⟨xs, n, ew, ez, n0, n1, q⟩ => by
    subst ew ez
    have r1' := rpAll_mono k2.sub r1
    cases r1' with
    | cons a r =>
      cases r
      cases r2 with
      | cons b r =>
        cases r
        cases b
        cases a with
        | lst hq ra =>
          rename_i A vs
          have hl := dpAll_len ra
          refine ⟨A, vs, n, rfl, rfl, n0, n1, s2.sub.seq hq, k _ F2 U2 H2 _ _ (k1.trans k2) s2 ⟨fun i H3 hi e => ?_, fun H3 e => ?_, fun i F3 U3 H3 v H4 hi e s3 y => ?_⟩ q⟩
          · have hi' : i < vs.length := by omega
            exact ⟨vs, vs[i], e.seq hq, by simp [hi']⟩
          · exact ⟨vs, e.seq hq, hl⟩
          · obtain ⟨T, x, rfl, hT, rfl, hx⟩ := y
            have hx' := hx vs ((e.trans s3.sub).seq hq)
            obtain ⟨v', e1, e2⟩ := dpAll_get ra (getD_of hi)
            rw [e1] at hx'
            obtain rfl := Option.some.inj hx'
            exact new_pair s3 hT (Dp.int _) (dp_mono e _ _ e2)
end Tv

namespace Tv
open PySem PySem.Spec PyProof.Rows L2 RZ StX

/-! ### tuple(d.items()), as a thing -/
abbrev dts (kvs : List (Key × PyData)) : List (Key × W) := kvs.map fun p => (p.1, W.d p.2)
abbrev pairD (p : Key × PyData) : PyData := .tuple [kD p.1, p.2]
section
variable {K : PySem.W.Frag} {F H : Hp} {U : UU}
/-- a tuple of pairs that tuple(d.items()) made -/
def isPt (K : PySem.W.Frag) (kvs : List (Key × PyData)) : Hp → V → Prop := fun F v => ∃ (T : Addr) (as : List Addr) (ps : List (Key × V)), v = .ref T ∧ F T = some (.frz (tupO as) (.tup (as.map V.ref))) ∧ Paired (fun a kv => F a = some (.tup [kV kv.1, kv.2])) as ps ∧ RpK K F ps (dts kvs)
abbrev W.pt (K : PySem.W.Frag) (kvs : List (Key × PyData)) : W := .x (isPt K kvs)
theorem isPt.mono {kvs : List (Key × PyData)} {v : V} {G : Hp} (h : isPt K kvs F v) (e : Same F G) : isPt K kvs G v := by
  obtain ⟨T, as, ps, rfl, h1, h2, h3⟩ := h
  exact ⟨T, as, ps, rfl, e _ _ h1, Paired.mapP h2 fun a kv z => e _ _ z, h3.mono e⟩
theorem pt_items : ∀ {as : List Addr} {ps : List (Key × V)} {kvs : List (Key × PyData)}, Paired (fun a kv => F a = some (.tup [kV kv.1, kv.2])) as ps → RpK K F ps (dts kvs) → DpAll K F (as.map V.ref) (kvs.map pairD)
  | _, _, [], .nil, _ => .nil
  | _, _, _ :: _, .nil, r => by cases r
  | _, _, [], .cons _ _, r => by cases r
  | _, _, (k, x) :: kvs, .cons h t, r => by
    cases r with
    | cons rx rt => exact .cons (.tup (SqT.of h) (.cons key_dp (.cons rx .nil))) (pt_items t rt)
/-- as data -/
theorem isPt.dp {kvs : List (Key × PyData)} {v : V} (h : isPt K kvs F v) : Dp K F v (.tuple (kvs.map pairD)) := by
  obtain ⟨T, as, ps, rfl, h1, h2, h3⟩ := h
  exact .tup (.inl (.inr ⟨_, h1⟩)) (pt_items h2 h3)
theorem rp_pt {kvs : List (Key × PyData)} {v : V} (h : isPt K kvs F v) : Rp K F v (.pt K kvs) := fun G e => h.mono e
theorem of_pt {kvs : List (Key × PyData)} {v : V} (h : Rp K F v (.pt K kvs)) : isPt K kvs F v := h F (Same.refl F)
theorem Sep.layP : ∀ {as : List Addr} {ps : List (Key × V)} {F H : Hp}, Sep K F U H → as.Nodup → (∀ a ∈ as, H a = none) → Sep K (Tv.layP F as ps) U (Tv.layP H as ps) ∧ Kp F U H (Tv.layP F as ps) U (Tv.layP H as ps)
  | [], _, _, _, s, _, _ => ⟨s, .refl⟩
  | _ :: _, [], _, _, s, _, _ => ⟨s, .refl⟩
  | a :: as, kv :: ps, F, H, s, nd, hn => by
    rw [List.nodup_cons] at nd
    obtain ⟨s1, k1⟩ := s.fix (o := .tup [kV kv.1, kv.2]) (hn a List.mem_cons_self)
    obtain ⟨s2, k2⟩ := Sep.layP (as := as) (ps := ps) s1 nd.2 fun b hb => by
      rw [upd_ne fun z => nd.1 (by rw [← z]; exact hb)]
      exact hn b (List.mem_cons_of_mem _ hb)
    exact ⟨s2, k1.trans k2⟩
end
section
variable {K : PySem.W.Frag} {ρ : Rho} {U : UU} {P : W → UU → Prop} {td te : TE}
theorem ev_tupItems (h : EV K td ρ U fun x U1 => ∃ a kvs, x = .r a ∧ U1 a = some (.k (dts kvs)) ∧ P (.pt K kvs) U1) : EV K (tCB rTupItems (tCons (tBM0 K "dict" rItemsK td) tNil)) ρ U P := fun σ F H sl sp Q k =>
  h σ F H sl sp _ fun v x F1 U1 H1 k1 s1 r1 ⟨a, kvs, ex, hu, q⟩ => by
    subst ex
    obtain rfl : v = .ref a := r1
    obtain ⟨fa, ps, ha, rk⟩ := s1.own a _ hu
    refine ⟨?_, a, ps, rfl, rfl, ha, fun p hp => ?_⟩
    · exact .inr (.inr (.inl ⟨rfl, .inl ⟨ps, ha⟩⟩))
    obtain ⟨s2, k2⟩ := s1.fix (o := L2.DX.itemsO p a) hp
    have nap : a ≠ p := ne_of_none ha hp
    refine ⟨p, a, ps, rfl, upd_same, by rw [upd_ne nap]; exact ha, fun T as hl nd hn hT nT => ?_⟩
    obtain ⟨s3, k3⟩ := s2.layP (ps := ps) nd hn
    have hT3 : layP (upd H1 p (L2.DX.itemsO p a)) as ps T = none := by rw [layP_off nT]; exact hT
    obtain ⟨s4, k4⟩ := s3.fix (o := .frz (tupO as) (.tup (as.map V.ref))) hT3
    have sub := (k2.sub.trans k3.sub).trans k4.sub
    refine k (.ref T) (.pt K kvs) _ U1 _ (((k1.trans k2).trans k3).trans k4) s4 (rp_pt ⟨T, as, ps, rfl, upd_same, ?_, rk.mono sub⟩) q
    exact Paired.mapP (layP_at (H := upd F1 p (L2.DX.itemsO p a)) hl nd) fun b kv z => k4.sub _ _ z
/-- such a tuple, as data -/
theorem ev_ptT (h : EV K te ρ U fun w V => ∃ kvs, w = .pt K kvs ∧ P (.t (kvs.map pairD)) V) : EV K te ρ U P := fun σ F H sl sp Q k =>
  h σ F H sl sp Q fun v w F2 U2 H2 k2 s2 r2 ⟨kvs, ew, q⟩ => by
    subst ew
    exact k v (.t (kvs.map pairD)) F2 U2 H2 k2 s2 (of_pt r2).dp q
end
end Tv

namespace Tv
open PySem PySem.Spec PyProof.Rows L2 RZ StX

/-! ### dict(t), t made by tuple(d.items()) -/
section
variable {X : Cx}
structure PrAt (h : Heap) (a : Addr) (key : Value) (k : Key) (v : Value) : Prop where
  ki : keyIs k key = true
  ob : ∃ o n, h.get? a = some o ∧ o.cls = .type "tuple" ∧ o.data = .seq #[key, v] n
theorem pairItems2 {pins : List (Addr × Obj)} {σ : L2.St} {H : Hp} {s : Shared} (I : Inv X pins σ H s) : ∀ {ps : List Addr} {kvs : List (Key × V)}, Paired (fun p kv => SqT X.K H p [kV kv.1, kv.2]) ps kvs →
    ∃ (prs : List (Key × Value)) (psv : List (Value × Value)), KV kvs prs ∧ psv.length = ps.length ∧ prs.length = ps.length ∧ ∀ (j : Nat) a, ps[j]? = some a → ∃ key k v, psv[j]? = some (key, v) ∧ prs[j]? = some (k, v) ∧ PrAt s.heap a key k v
  | [], [], _ => ⟨[], [], .nil, rfl, rfl, fun j a e => by simp at e⟩
  | p :: ps, kv :: kvs, r => by
    cases r with
    | cons h t =>
      obtain ⟨prs, psv, r1, r2, r4, r3⟩ := pairItems2 I t
      obtain ⟨its, rv, ⟨o, ho, hc, n, hd⟩, hz⟩ := I.tuple h
      cases rv with
      | cons a1 rr =>
        rename_i key us
        cases rr with
        | cons a2 rr =>
          rename_i v us
          cases rr
          have hk : keyIs kv.1 key = true := kV_is (P := X.prog) (w := X.w) a1
          refine ⟨(kv.1, v) :: prs, (key, v) :: psv, .cons ⟨rfl, a2⟩ r1, by rw [List.length_cons, List.length_cons, r2], by rw [List.length_cons, List.length_cons, r4], fun j a e => ?_⟩
          cases j with
          | zero =>
            rw [List.getElem?_cons_zero] at e
            cases e
            exact ⟨key, kv.1, v, rfl, rfl, hk, o, n, ho, hc, hd⟩
          | succ j =>
            rw [List.getElem?_cons_succ] at e
            obtain ⟨key', k', v', g1, g2, g3⟩ := r3 j a e
            exact ⟨key', k', v', by rw [List.getElem?_cons_succ]; exact g1, by rw [List.getElem?_cons_succ]; exact g2, g3⟩
def rDictPt (K : PySem.W.Frag) : List V → Hp → VK → Prop := fun xs H Q => ∃ (T : Addr) (as : List Addr) (ps : List (Key × V)), xs = [.ref T] ∧ H T = some (.frz (tupO as) (.tup (as.map V.ref))) ∧ Paired (fun a kv => SqT K H a [kV kv.1, kv.2]) as ps ∧ as.length ≤ 1000 ∧ ∀ d, H d = none → Q (.ref d) (upd H d (.dK (mergeK [] ps)))
theorem cr_dictPt (hcalm : X.calm = true) : CallR X (.type "dict") (rDictPt X.K) := by
  intro pins s σ H xs us Q I r q
  obtain ⟨T, as, ps, rfl, hT, hp, hl, q⟩ := q
  rw [Vals.ref1 r]
  obtain ⟨hg, _⟩ := I.hok T _ hT
  obtain ⟨prs, psv, rel, h1, h2, h3⟩ := pairItems2 I hp
  have ok : PlainSeq "tuple" s.heap T (as.map Value.ref).toArray ∧ PairItems s.heap (as.map Value.ref).toArray (fun j => as.getD j 0) psv := by
    refine ⟨⟨_, _, hg, rfl, rfl, rfl⟩, by simp [h1], fun j k v e => ?_⟩
    have hj : j < as.length := by rw [← h1]; exact (List.getElem?_eq_some_iff.mp e).1
    have ea : as[j]? = some as[j] := by simp [hj]
    obtain ⟨key, k', v', g1, g2, g3⟩ := h3 j _ ea
    rw [g1] at e
    cases e
    have eg : as.getD j 0 = as[j] := by rw [List.getD_eq_getElem?_getD, ea] <;> rfl
    refine ⟨by simp [hj], ?_⟩
    show PairAt s.heap (as.getD j 0) _ _
    rw [eg]
    obtain ⟨o, n, ho, hc, hd⟩ := g3.ob
    exact .inl ⟨o, ho, hc, n, hd⟩
  refine call_dict_pairs (knd := mixKind X.prog X.w) (kvs := prs) (PairArg.tuple T (as.map Value.ref).toArray (fun j => as.getD j 0) psv) (I.ok.hd hcalm) ok ⟨by rw [h2, h1], fun i key v e => ?_⟩ (by rw [h1, sizeLine_eq]; omega) fun h' tk hd' hk => ?_
  · have hj : i < as.length := by rw [← h1]; exact (List.getElem?_eq_some_iff.mp e).1
    have ea : as[i]? = some as[i] := by simp [hj]
    obtain ⟨key', k', v', g1, g2, g3⟩ := h3 i _ ea
    have e' : psv[i]? = some (key, v) := e
    rw [g1] at e'
    cases e'
    exact ⟨k', g2, g3.ki⟩
  · have hm : (s.heap.objs.size == sysModules) = false := beq_eq_false_iff_ne.mpr (Nat.ne_of_gt I.big)
    have hlen : (mergeK [] ps).length ≤ sizeLine := by
      refine Nat.le_trans (length_mergeK ps []) ?_
      rw [List.length_nil, Nat.zero_add, rel.length, h2, sizeLine_eq]
      omega
    exact ⟨.ref s.heap.objs.size, upd H s.heap.objs.size (.dK (mergeK [] ps)), I.laid (t' := tk) (fun b o e => hk b o (by simp) e) (Nat.le_refl _) (show ObjOk X.prog X.w _ _ _ (.dK (mergeK [] ps)) from ⟨hlen, hm, merged [] prs, KV.merge rel .nil, hd'⟩), rfl, q _ (I.hok.fresh (Nat.le_refl _))⟩
end
end Tv
namespace Tv
open PySem PySem.Spec PyProof.Rows L2 RZ StX
theorem mergeK_app : ∀ {ps acc : List (Key × V)}, (ps.map (·.1)).Nodup → (∀ p ∈ ps, ∀ q ∈ acc, q.1 ≠ p.1) → mergeK acc ps = acc ++ ps
  | [], acc, _, _ => (List.append_nil acc).symm
  | (k, v) :: ps, acc, nd, dj => by
    rw [List.map_cons, List.nodup_cons] at nd
    have e1 : putK acc k v = acc ++ [(k, v)] := by
      unfold putK
      rw [if_neg]
      intro z
      obtain ⟨q, hq, h2⟩ := List.any_eq_true.mp z
      exact dj (k, v) List.mem_cons_self q hq (of_decide_eq_true h2)
    show mergeK (putK acc k v) ps = _
    rw [e1, mergeK_app nd.2 fun p hp q hq => ?_, List.append_assoc]
    · rfl
    · rcases List.mem_append.mp hq with z | z
      · exact dj p (List.mem_cons_of_mem _ hp) q z
      · rw [List.mem_singleton.mp z]
        exact fun e => nd.1 (e ▸ List.mem_map_of_mem (f := (·.1)) hp)
section
variable {X : Cx} (K : PySem.W.Frag)
theorem bDictPt (hc : X.calm = true) (h : X.K = K := by exact rfl) : CallR X (.type "dict") (rDictPt K) := h ▸ cr_dictPt hc
end
section
variable {K : PySem.W.Frag} {F H : Hp} {U : UU} {P : W → UU → Prop}
/-- dict(t), t made by tuple(d.items()) -/
theorem rl_dictPt {kvs : List (Key × PyData)} (nd : (kvs.map (·.1)).Nodup) (hz : kvs.length ≤ 1000) (q : ∀ d, U d = none → P (.r d) (put U d (.k (dts kvs)))) : RLW K (rDictPt K) [.pt K kvs] U P := fun vs F H sp r Q k => by
  cases r with
  | cons a r =>
    cases r
    obtain ⟨T, as, ps, rfl, h1, h2, h3⟩ := of_pt a
    have hl : as.length = kvs.length := by
      rw [Paired.length h2, rpK_length h3, List.length_map]
    have nd2 : (ps.map (·.1)).Nodup := by
      rw [rpK_keys h3, List.map_map]
      exact nd
    refine ⟨T, as, ps, rfl, sp.sub _ _ h1, Paired.mapP h2 fun a kv z => SqT.of (sp.sub _ _ z), by omega, fun d hd => ?_⟩
    rw [mergeK_app (acc := []) nd2 fun p _ q hq => (List.not_mem_nil hq).elim, List.nil_append]
    obtain ⟨s2, k2⟩ := sp.newB (b := .k (dts kvs)) (o := .dK ps) hd ⟨ps, upd_same, h3⟩
    exact k _ (.r d) _ _ _ k2 s2 rfl (q d (sp.free hd).2)
end
end Tv

namespace Tv
open PySem PySem.Spec PyProof.Rows L2

/-! ### a comprehension's list that goes on to change -/
section
variable {K : PySem.W.Frag} {ρ : Rho} {U : UU} {E : EndW} {te : TE} {wi : TI} {g : TG} {tb : TS}
theorem ev_lcM {tt : TT} {vs : List Nat} {P : W → UU → Prop} (hg : Own g vs) (h : IW K wi ρ U fun n item U1 => ∃ Iv : Nat → List PyData → UU → Prop, Iv 0 [] U1 ∧
      (∀ i acc U, i < n → acc.length ≤ i → Iv i acc U → GW K g (.d (item i)) (wipeR ρ vs) U fun ρ2 U2 => ET K tt ρ2 U2 fun b U3 =>
        (b = true → EV K te ρ2 U3 fun w U4 => ∃ x, w = .d x ∧ acc.length < sizeLine ∧ Iv (i + 1) (acc ++ [x]) U4) ∧ (b = false → Iv (i + 1) acc U3)) ∧
      n ≤ sizeLine ∧ ∀ acc U D, U D = none → acc.length ≤ n → Iv n acc U → P (.r D) (put U D (acc.map W.d))) : EV K (tLc wi g tt te vs) ρ U P := fun σ F H sl sp Q k =>
  h σ F H sl sp _ fun J F1 U1 H1 n item k1 s1 wk ⟨Iv, h0, hs, hn, hd⟩ => fun D hD => by
    obtain ⟨fD, uD⟩ := s1.free hD
    -- with the new list at D beside
    refine ⟨fun i m H2 => m = n - i ∧ i ≤ n ∧ ∃ F2 U2 acc vacc, Kp F1 U1 H1 F2 U2 H2 ∧ F2 D = none ∧ U2 D = none ∧ H2 D = some (.lst vacc) ∧ DpAll K F2 vacc acc ∧ acc.length ≤ i ∧ Sep K F2 U2 H2 ∧ Iv i acc U2,
      ⟨n, by simp, Nat.zero_le _, F1, U1, [], [], ?_, fD, uD, upd_same, .nil, Nat.le_refl _, ?_, h0⟩, ?_⟩
    · exact ⟨Same.refl F1, fun b o hb hf hu => ⟨by rw [upd_ne (ne_of_none hb hD)]; exact hb, hf, hu⟩⟩
    · exact ⟨fun b o e => by rw [upd_ne (ne_of_none e fD)]; exact s1.sub b o e, fun a ws e => by
        have ne : a ≠ D := fun z => by rw [z, uD] at e; cases e
        obtain ⟨a1, a2⟩ := s1.own a ws e
        exact ⟨a1, a2.mono (Same.refl _) (upd_ne ne)⟩⟩
    rintro i m H2 ⟨rfl, hi, F2, U2, acc, vacc, k2, f2, u2, hD2, da, hal, s2, inv⟩
    have sub : Same F1 H2 := k2.sub.trans s2.sub
    by_cases hlt : i < n
    · refine .inr ⟨wk.go i H2 hlt sub, fun H' => ∃ F' U' acc' vacc', Kp F1 U1 H1 F' U' H' ∧ F' D = none ∧ U' D = none ∧ H' D = some (.lst vacc') ∧ DpAll K F' vacc' acc' ∧ acc'.length ≤ i + 1 ∧ Sep K F' U' H' ∧ Iv (i + 1) acc' U',
        fun H' ⟨F', U', acc', vacc', a, b, c, d, e, f, g1, h1⟩ => ⟨n - (i + 1), by omega, rfl, hlt, F', U', acc', vacc', a, b, c, d, e, f, g1, h1⟩, fun x H3 y => ?_⟩
      have hh : ∀ R : L2.St → Hp → Prop, g x (wipe σ vs) H3 R → g x (wipe σ vs) H3 fun σ2 H2 => wipe σ2 vs = wipe σ vs ∧ R σ2 H2 := fun R q => by
        have z := hg.own x (wipe σ vs) H3 R q
        rw [wipe_idem] at z
        exact z
      refine hh _ ?_
      obtain ⟨F3, k3, s3, d3⟩ := wk.yld i F2 U2 H2 x H3 hlt k2.sub s2 y
      have sl3 : Sl K F3 (wipe σ vs) (wipeR ρ vs) := (sl_wipe (sl.mono k1.sub) vs).mono (k2.sub.trans k3.sub)
      refine hs i acc U2 hlt hal inv (wipe σ vs) F3 H3 x sl3 s3 d3 _ fun σ4 F4 H4 ρ4 U4 k4 sl4 s4 q => ?_
      refine q σ4 F4 H4 sl4 s4 _ fun b F5 U5 H5 k5 s5 ⟨qt, qf⟩ => ?_
      have kd : Kp F2 U2 H2 F5 U5 H5 := (k3.trans k4).trans k5
      obtain ⟨hD5, f5, u5⟩ := kd.rest D _ hD2 f2 u2
      cases b with
      | true =>
        rw [if_pos rfl]
        refine qt rfl σ4 F5 H5 (sl4.mono k5.sub) s5 _ fun v w F6 U6 H6 k6 s6 r6 ⟨x6, ew, hz, inv6⟩ => ?_
        subst ew
        obtain ⟨hD6, f6, u6⟩ := k6.rest D _ hD5 f5 u5
        have hlen := dpAll_len da
        refine ⟨vacc, hD6, by rw [hlen]; exact hz, F6, U6, acc ++ [x6], vacc ++ [v], ?_, f6, u6, upd_same, ?_, by simp; omega, ?_, inv6⟩
        · have k06 := (k2.trans kd).trans k6
          refine ⟨k06.sub, fun b o hb hf hu => ?_⟩
          have ne : b ≠ D := ne_of_none hb hD
          obtain ⟨c1, c2, c3⟩ := k06.rest b o hb hf hu
          exact ⟨by rw [upd_ne ne]; exact c1, c2, c3⟩
        · have a1 := dpAll_mono (kd.sub.trans k6.sub) acc vacc da
          exact rpAll_dp (by
            rw [List.map_append]
            exact rpAll_app (dp_rpAll a1) (.cons r6 .nil))
        · exact ⟨fun b o e => by rw [upd_ne (ne_of_none e f6)]; exact s6.sub b o e, fun a ws e => by
            have ne : a ≠ D := fun z => by rw [z, u6] at e; cases e
            obtain ⟨a1, a2⟩ := s6.own a ws e
            exact ⟨a1, a2.mono (Same.refl _) (upd_ne ne)⟩⟩
      | false =>
        rw [if_neg Bool.false_ne_true]
        exact ⟨F5, U5, acc, vacc, k2.trans kd, f5, u5, hD5, dpAll_mono kd.sub acc vacc da, Nat.le_succ_of_le hal, s5, qf rfl⟩
    · obtain rfl : i = n := by omega
      refine .inl ⟨wk.stop H2 sub, ?_⟩
      refine k (.ref D) (.r D) F2 (put U2 D (acc.map W.d)) H2 ⟨k1.sub.trans k2.sub, fun b o hb hf hu => ?_⟩ ⟨s2.sub, fun a ws e => ?_⟩ rfl (hd acc U2 D u2 hal inv)
      · obtain ⟨b1, b2, b3⟩ := k1.rest b o hb hf hu
        have ne : b ≠ D := ne_of_none b1 hD
        obtain ⟨c1, c2, c3⟩ := k2.rest b o b1 b2 b3
        exact ⟨c1, c2, by rw [put_ne ne]; exact c3⟩
      · by_cases z : a = D
        · subst z
          rw [put_same] at e
          cases e
          exact ⟨f2, vacc, hD2, by rw [dpAll_len da]; omega, dp_rpAll da⟩
        · rw [put_ne z] at e
          exact s2.own a ws e
end
end Tv

namespace Tv
open PySem PySem.Spec PyProof.Rows L2 RZ
/-! ### a < b < c < d -/
def tChain3 (r r' r'' : R2) (ta tb tc td : TE) : TE := fun σ H Q => ta σ H fun x H1 => tb σ H1 fun y H2 => r x y H2 fun z H3 => ∃ k, z = .bl k ∧
  (if k = true then tc σ H3 fun w H4 => r' y w H4 fun z5 H5 => ∃ k, z5 = .bl k ∧ (if k = true then td σ H5 fun u H6 => r'' w u H6 Q else Q (.bl false) H5) else Q (.bl false) H3)
section
variable {X : Cx} {a b c d : Expr} {ta tb tc td : TE} {pos : Pos} {r r' r'' : R2} {op op' op'' : CmpOp}
theorem pe_chain3 (ho : OpR X (compareOp op) r) (ho' : OpR X (compareOp op') r') (ho'' : OpR X (compareOp op'') r'') (ha : PE X a ta) (hb : PE X b tb) (hc : PE X c tc) (hd : PE X d td)
    (hm : lastMarks [op, op', op''] [b, c, d] = false := by with_unfolding_all rfl) : PE X (.Compare a [op, op', op''] [b, c, d] pos) (tChain3 r r' r'' ta tb tc td) := by
  refine ⟨fun pins s σ H Q I h => ?_⟩
  refine Compare_chain (thn (ha.run pins s σ H _ I h) fun v s1 ⟨x, H1, I1, r1, q1⟩ => chain_link (thn (hb.run pins s1 σ H1 _ I1 q1) fun u s2 ⟨y, H2, I2, r2, q2⟩ =>
    thn (ho pins s2 σ H2 x y v u _ I2 r1 r2 q2) fun d s3 ⟨z, H3, I3, r3, k, e, q3⟩ => ?_)) hm
  subst e
  cases r3
  refine wpAny_truthy_bool ?_
  cases k with
  | false => exact ite_ff ⟨.bl false, H3, I3, rfl, q3⟩
  | true =>
    refine ite_tt (chain_link (thn (hc.run pins s3 σ H3 _ I3 q3) fun w' s4 ⟨z', H4, I4, r4, q4⟩ => thn (ho' pins s4 σ H4 y z' u w' _ I4 r2 r4 q4) fun d5 s5 ⟨z5, H5, I5, r5, k5, e5, q5⟩ => ?_))
    subst e5
    cases r5
    refine wpAny_truthy_bool ?_
    cases k5 with
    | false => exact ite_ff ⟨.bl false, H5, I5, rfl, q5⟩
    | true => exact ite_tt (chain_last (thn (hd.run pins s5 σ H5 _ I5 q5) fun w6 s6 ⟨z6, H6, I6, r6, q6⟩ => ho'' pins s6 σ H6 z' z6 w' w6 Q I6 r4 r6 q6))
end
section
variable {K : PySem.W.Frag} {ρ : Rho} {U : UU} {P : W → UU → Prop} {ta tb tc td : TE} {r r' r'' : R2}
theorem ev_chain3 (h : EV K ta ρ U fun x U1 => EV K tb ρ U1 fun y U2 => R2W K r x y U2 fun z U3 => ∃ b, z = .b b ∧ (b = true → EV K tc ρ U3 fun w U4 => R2W K r' y w U4 fun z5 U5 => ∃ b, z5 = .b b ∧ (b = true → EV K td ρ U5 fun u U6 => R2W K r'' w u U6 P) ∧ (b = false → P (.b false) U5)) ∧ (b = false → P (.b false) U3)) :
    EV K (tChain3 r r' r'' ta tb tc td) ρ U P := fun σ F H sl sp Q k =>
  h σ F H sl sp _ fun v x F1 U1 H1 k1 s1 r1 h1 => h1 σ F1 H1 (sl.mono k1.sub) s1 _ fun u y F2 U2 H2 k2 s2 r2 h2 =>
    h2 v u F2 H2 s2 (rp_mono k2.sub r1) r2 _ fun z w F3 U3 H3 k3 s3 r3 ⟨b, e, ht, hf⟩ => by
      subst e
      cases r3
      refine ⟨b, rfl, ?_⟩
      have k123 := (k1.trans k2).trans k3
      cases b with
      | true =>
        rw [if_pos rfl]
        refine ht rfl σ F3 H3 (sl.mono k123.sub) s3 _ fun u' y' F4 U4 H4 k4 s4 r4 h4 => h4 u u' F4 H4 s4 (rp_mono (k3.sub.trans k4.sub) r2) r4 _ fun v5 w5 F5 U5 H5 k5 s5 r5 ⟨b5, e5, ht5, hf5⟩ => ?_
        subst e5
        cases r5
        refine ⟨b5, rfl, ?_⟩
        have k15 := (k123.trans k4).trans k5
        cases b5 with
        | true =>
          rw [if_pos rfl]
          exact ht5 rfl σ F5 H5 (sl.mono k15.sub) s5 _ fun u6 y6 F6 U6 H6 k6 s6 r6 h6 => h6 u' u6 F6 H6 s6 (rp_mono (k5.sub.trans k6.sub) r4) r6 Q fun v w F7 U7 H7 k7 s7 r7 q => k v w F7 U7 H7 ((k15.trans k6).trans k7) s7 r7 q
        | false =>
          rw [if_neg Bool.false_ne_true]
          exact k _ (.b false) F5 U5 H5 k15 s5 (Dp.bl false) (hf5 rfl)
      | false =>
        rw [if_neg Bool.false_ne_true]
        exact k _ (.b false) F3 U3 H3 k123 s3 (Dp.bl false) (hf rfl)
end
/-! ### a module's numbers and texts -/
section
variable {K : PySem.W.Frag} {h : Heap} {mg : Str → Option Value} {X : Str}
theorem kc_int {n : Int} {t : Tok} (I : K.In h) (G : h.Ns mainGlobals mg) (a1 : PySem.W.nsIn K mainGlobals X = some (some (.int n t))) : ∃ t, mg X = some (.int n t) := ⟨t, PySem.W.mg_of I G a1⟩
theorem kc_str {z : Str} {t : Tok} (I : K.In h) (G : h.Ns mainGlobals mg) (a1 : PySem.W.nsIn K mainGlobals X = some (some (.str z t))) : ∃ t, mg X = some (.str z t) := ⟨t, PySem.W.mg_of I G a1⟩
end
end Tv
namespace Tv
open PySem PySem.Spec PyProof.Rows L2 RZ StX
section
variable {K : PySem.W.Frag} {ρ : Rho} {U : UU} {P : W → UU → Prop} {te tl : TE} {tt : TT} {g : TG} {vs : List Nat}
theorem ev_lcSL (h : EV K (tLc (iList K tl) g tt te vs) ρ U P) : EV K (tLc (iSeq K tl) g tt te vs) ρ U P := fun σ F H sl sp Q k => .inl (h σ F H sl sp Q k)
theorem ev_lcST (h : EV K (tLc (iTup K tl) g tt te vs) ρ U P) : EV K (tLc (iSeq K tl) g tt te vs) ρ U P := fun σ F H sl sp Q k => .inr (h σ F H sl sp Q k)
end
end Tv

namespace Tv
open PySem PySem.Spec PyProof.Rows L2 RZ StX
/-! ### dict(xs), xs a list of pairs -/
section
variable {X : Cx} (K : PySem.W.Frag)
def rDictP : List V → Hp → VK → Prop := fun xs H Q => ∃ (a : Addr) (ps : List Addr) (kvs : List (Key × V)), xs = [.ref a] ∧ SqL K H a (ps.map V.ref) ∧ Paired (fun p kv => SqT K H p [kV kv.1, kv.2]) ps kvs ∧ ∀ p, H p = none → Q (.ref p) (upd H p (.dK (mergeK [] kvs)))
theorem bDictL (hc : X.calm = true) (h : X.K = K := by exact rfl) : CallR X (.type "dict") (rDictP K) := h ▸ call_dictP hc
end
section
variable {K : PySem.W.Frag} {F H : Hp} {U : UU} {ρ : Rho} {P : W → UU → Prop} {tk tv tk2 tv2 : TE}
theorem dp_pairs : ∀ {vs : List V} {kvs : List (Key × PyData)}, DpAll K F vs (kvs.map pairD) → ∃ (as : List Addr) (ps : List (Key × V)), vs = as.map V.ref ∧ Paired (fun a kv => SqT K F a [kV kv.1, kv.2]) as ps ∧ RpK K F ps (dts kvs)
  | [], [], _ => ⟨[], [], rfl, .nil, .nil⟩
  | v :: vs, (key, x) :: kvs, .cons h t => by
    obtain ⟨as, ps, e1, e2, e3⟩ := dp_pairs t
    cases h with
    | tup hq ra =>
      rename_i A us
      cases ra with
      | cons h1 ra =>
        cases ra with
        | cons h2 ra =>
          cases ra
          have ek := dp_key h1
          subst ek
          exact ⟨A :: as, (key, _) :: ps, by rw [e1]; rfl, .cons hq e2, .cons h2 e3⟩
theorem rl_dictL {kvs : List (Key × PyData)} (nd : (kvs.map (·.1)).Nodup) (q : ∀ d, U d = none → P (.r d) (put U d (.k (dts kvs)))) : RLW K (rDictP K) [.l (kvs.map pairD)] U P := fun vs F H sp r Q k => by
  cases r with
  | cons a r =>
    cases r
    cases a with
    | lst hq ra =>
      rename_i A us
      obtain ⟨as, ps, rfl, h2, h3⟩ := dp_pairs ra
      have nd2 : (ps.map (·.1)).Nodup := by
        rw [rpK_keys h3, List.map_map]
        exact nd
      refine ⟨A, as, ps, rfl, sp.sub.seq hq, Paired.mapP h2 fun a kv z => sqt_mono sp.sub z, fun d hd => ?_⟩
      rw [mergeK_app (acc := []) nd2 fun p _ q hq => (List.not_mem_nil hq).elim, List.nil_append]
      obtain ⟨s2, k2⟩ := sp.newB (b := .k (dts kvs)) (o := .dK ps) hd ⟨ps, upd_same, h3⟩
      exact k _ (.r d) _ _ _ k2 s2 rfl (q d (sp.free hd).2)
/-- {k: v, k2: v2} -/
theorem ev_disp2 (h : ∀ p, U p = none → EV K tk ρ (put U p (.k [])) fun x U1 => EV K tv ρ U1 fun w U2 => EV K tk2 ρ U2 fun x2 U3 => EV K tv2 ρ U3 fun w2 U4 => ∃ key key2, x = .d (kD key) ∧ x2 = .d (kD key2) ∧ key2 ≠ key ∧ U4 p = some (.k []) ∧ P (.r p) (put U4 p (.k [(key, w), (key2, w2)]))) : EV K (tDisp [(tk, tv), (tk2, tv2)]) ρ U P := fun σ F H sl sp Q k p hp => by
  obtain ⟨s1, k1⟩ := sp.newB (b := .k []) (o := .dK []) hp ⟨[], upd_same, .nil⟩
  refine h p (sp.free hp).2 σ F _ (sl.mono k1.sub) s1 _ fun u x F2 U2 H2 k2 s2 r2 h2 => ?_
  have k12 := k1.trans k2
  refine h2 σ F2 H2 (sl.mono k12.sub) s2 _ fun v w F3 U3 H3 k3 s3 r3 h3 => ?_
  have k13 := k12.trans k3
  refine h3 σ F3 H3 (sl.mono k13.sub) s3 _ fun u2 x2 F4 U4 H4 k4 s4 r4 h4 => ?_
  have k14 := k13.trans k4
  refine h4 σ F4 H4 (sl.mono k14.sub) s4 _ fun v2 w2 F5 U5 H5 k5 s5 r5 ⟨key, key2, ex, ex2, ne, hU, q⟩ => ?_
  have k15 := k14.trans k5
  subst ex ex2
  obtain rfl := dp_key r2
  obtain rfl := dp_key r4
  obtain ⟨f, ps, ha, rk⟩ := s5.own p _ hU
  cases rk
  obtain ⟨s6, k6⟩ := s5.set (b' := .k [(key, w), (key2, w2)]) (o := .dK [(key, v), (key2, v2)]) hU ⟨_, upd_same, .cons (rp_mono (k4.sub.trans k5.sub) r3) (.cons r5 .nil)⟩
  refine ⟨ha, [(key, v), (key2, v2)], rfl, Nat.le_add_left 2 13, ?_⟩
  rw [mergeK_app (acc := []) (by simp [Ne.symm ne]) fun p _ q hq => (List.not_mem_nil hq).elim, List.nil_append]
  exact k _ (.r p) F5 _ _ (k15.trans k6) s6 rfl q
end
end Tv
namespace Tv
open PySem PySem.Spec PyProof.Rows L2 RZ StX
section
variable {K : PySem.W.Frag} {ρ : Rho} {U : UU} {E : EndW} {ts tu : TS}
/-- one behind the other, what is between told once -/
theorem sw_seqC (I : Rho → UU → Prop) (h : SW K ts ρ U { E with nx := I }) (h2 : ∀ ρ2 U2, I ρ2 U2 → SW K tu ρ2 U2 E) : SW K (tSeq ts tu) ρ U E := fun σ F H D sl sp e =>
  h σ F H _ sl sp ⟨fun σ2 F2 H2 ρ2 U2 k sl2 sp2 q => h2 ρ2 U2 q σ2 F2 H2 D sl2 sp2 (e.on k), e.rt, e.bk, e.ct, e.er⟩
end
theorem dk_els {K : PySem.W.Frag} {U V : UU} {a : Addr} {x : W} {n : Nat} {kvs : List (Key × W)} (h : DkIs K U x kvs) (hP : Pt U a n) (he : Els a U V) : DkIs K V x kvs := by
  rcases h with ⟨d, rfl, hu⟩ | rfl
  · refine .inl ⟨d, rfl, (he d fun z => ?_).trans hu⟩
    obtain ⟨_, _, _, e, _⟩ := hP
    rw [z, e] at hu
    cases hu
  · exact .inr rfl
theorem cut_new {U : UU} {x dx : Addr} {b c c' : Bx} (hx : U x = none) (hd : U dx = none) : cut (cut (put (put (put U dx b) x c) x c') x) dx = U := by
  funext e
  by_cases h1 : e = dx
  · subst h1
    rw [cut_same, hd]
  · rw [cut_ne h1]
    by_cases h2 : e = x
    · subst h2
      rw [cut_same, hx]
    · rw [cut_ne h2, put_ne h2, put_ne h2, put_ne h1]
end Tv
namespace Tv
open PySem PySem.Spec PyProof.Rows L2 RZ StX
section
variable {K : PySem.W.Frag} {h : Heap} {mg : Str → Option Value} {C f : Addr} {x q nm : Str} {st : Stmt}
theorem mat_mk {od an : Option Addr} {sl : Array (Option Value)} {oc kV dc pm cd ct : Value} (a1 : PySem.W.findIn K (.ref C) x = some (some (.ref f))) (i1 : PySem.W.isFn K (.ref f) = true)
    (l1 : K.lookup f = some ⟨oc, od, .func (PySem.W.fnOf x q (defArgs st) (defBody st) (defScope st) .none kV dc pm an cd ct), sl⟩) (c1 : PySem.W.codeIn K cd q = true) (k1 : PySem.W.keepIn K (.ref f) = true) : MAt K C st x q :=
  ⟨f, _, fun_mk (st := st) l1 c1 k1, a1, i1⟩
theorem na_mk (h : PySem.W.findIn K (.ref C) x = some none) : NoAttr K C x := h
theorem cls_mk (X : K.In h) (G : h.Ns mainGlobals mg) (aC : PySem.W.nsIn K mainGlobals nm = some (some (.ref C))) (pg : PySem.W.plainGet K C Str.empty = true) (hd : PySem.W.hasDictIn K C = true) (po : PySem.W.plainOver K C = true)
    (sa : PySem.W.findIn K (.ref C) "__setattr__" = some (some (.builtin "object.__setattr__"))) (mk : PySem.W.makesIn K C = true) (kc : PySem.W.keepIn K (.ref C) = true) : ClsAt K mg nm C :=
  ⟨PySem.W.mg_of X G aC, ⟨pg, hd, po, sa⟩, mk, kc⟩
end
end Tv

namespace Tv
open PySem PySem.Spec PyProof.Rows L2 RZ StX
/-! ### sets of texts -/
abbrev SK (P : Program) (w : World) : KeyKind P w Str := PySem.strKind P w
def tx (e : Int × Value) : Str := match e.2 with | .str x _ => x | _ => Str.empty
def TxE (w : World) (e : Int × Value) : Prop := ∃ x t, e = (hashStr w x, Value.str x t)
/-- a set of texts at a, L its members as they stand in its table -/
def SS (w : World) (h : Heap) (a : Addr) (L : List Str) : Prop := ∃ o es ep t, (h.get? a = some o ∧ o.ExactSet ∧ o.data = .set es ep t) ∧ ((∀ e ∈ es.toList, TxE w e) ∧ es.toList.map tx = L ∧ L.Nodup) ∧
  (es.size < scanBound ∧ t.fits es.size = true) ∧ Ris t.place.toList ∧ (w.params.followText "set-order" = true ∨ t.led = true)
section
variable {P : Program} {w : World} {h h' : Heap} {a : Addr} {L : List Str} {A : Around} {E : Value → Shared → Prop} {s : Shared}
theorem SS.move (R : SS w h a L) (k : ∀ o, h.get? a = some o → h'.get? a = some o) : SS w h' a L := let ⟨o, es, ep, t, x, y⟩ := R; ⟨o, es, ep, t, ⟨k o x.1, x.2⟩, y⟩
theorem tx_el {l : List (Int × Value)} (g : ∀ e ∈ l, TxE w e) : ElemsOf (SK P w) l := fun e he => by
  obtain ⟨x, t, rfl⟩ := g e he
  exact ⟨⟨x, strKind_is P w x t, rfl⟩, rfl⟩
theorem tx_is {e : Int × Value} (g : TxE w e) (k : Str) : (SK P w).is k e.2 = true ↔ tx e = k := by
  obtain ⟨x, t, rfl⟩ := g
  show (x == k) = true ↔ x = k
  exact beq_iff_eq
theorem tx_perm {es es1 : Array (Int × Value)} {k : Str} {tk : Tok} (pm : es1.toList.Perm (es.push (hashStr w k, Value.str k tk)).toList) (g : ∀ e ∈ es.toList, TxE w e) (nd : (es.toList.map tx).Nodup) (hk : k ∉ es.toList.map tx) :
    (∀ e ∈ es1.toList, TxE w e) ∧ (es1.toList.map tx).Perm (k :: es.toList.map tx) ∧ (es1.toList.map tx).Nodup ∧ es1.size = es.size + 1 := by
  rw [Array.toList_push] at pm
  have pc := pm.trans (List.perm_append_singleton (hashStr w k, Value.str k tk) es.toList)
  have pk : (es1.toList.map tx).Perm (k :: es.toList.map tx) := pc.map tx
  refine ⟨fun e he => ?_, pk, pk.nodup_iff.mpr (List.nodup_cons.mpr ⟨hk, nd⟩), ?_⟩
  · rcases List.mem_cons.mp (pc.mem_iff.mp he) with z | z
    · exact ⟨k, tk, z⟩
    · exact g e z
  · have q := pc.length_eq
    rw [List.length_cons, Array.length_toList, Array.length_toList] at q
    exact q
/-- what is stored stands there -/
theorem ss_stored {o : Obj} {es es' : Array (Int × Value)} {ep : Nat} {t t' : SetTable} (ho : h.get? a = some o) (hx : o.ExactSet) (hd : o.data = .set es ep t) (g : ∀ e ∈ es'.toList, TxE w e) (nd : (es'.toList.map tx).Nodup) (hb : es'.size < scanBound) (hf : t'.fits es'.size = true)
    (hr : Ris t'.place.toList) (hl : w.params.followText "set-order" = true ∨ t'.led = true) : SS w (h.update a (Obj.putSet es' t')) a (es'.toList.map tx) :=
  ⟨_, es', _, t', ⟨L2.store_at ho hd, hx, rfl⟩, ⟨g, rfl, nd⟩, ⟨hb, hf⟩, hr, hl⟩
/-- the table's own storing, perhaps laid anew -/
theorem ss_lay {g : Bool → Sem Unit} (hg : ∀ (b : Bool) (z : Shared) (Q' : Unit → Shared → Prop), Q' () z → wpAny (model P w) A (g b) Q' E z) {o : Obj} {es es1 : Array (Int × Value)} {ep : Nat} {t t2 : SetTable} (ho : s.heap.get? a = some o ∧ o.ExactSet ∧ o.data = .set es ep t)
    (g1 : (∀ e ∈ es1.toList, TxE w e) ∧ (es1.toList.map tx).Nodup) (hb : es1.size < scanBound) (hf : t2.fits es1.size = true) (hr : Ris t2.place.toList) (hl : w.params.followText "set-order" = true ∨ t2.led = true) {wd : Bool} {R : Option Bool → Shared → Prop}
    (hR : ∀ h' L', Heap.SameBut a s.heap h' → SS w h' a L' → L'.Perm (es1.toList.map tx) → R (some true) { s with heap := h' }) :
    wpAny (model P w) A (storeSet a es1 t2 >>= fun _ => if (!wd && t2.tooFull) = true then (g (relayAll t2 es1 (SetTable.grown es1.size)).2.2 >>= fun _ => storeSet a (relayAll t2 es1 (SetTable.grown es1.size)).1 (relayAll t2 es1 (SetTable.grown es1.size)).2.1 >>= fun _ => pure (some true)) else pure (some true)) R E s := by
  obtain ⟨ho, hx, hd⟩ := ho
  have ho1 := L2.store_at (es' := es1) (t' := t2) ho hd
  have sb := Heap.SameBut.update s.heap a (Obj.putSet es1 t2)
  refine wpAny_bind (wpAny_storeSet_of ho hd ?_ (fits_of_scanBound hb)); split
  · have pm := relayAll_perm t2 es1 (SetTable.grown es1.size); have f3 := relayAll_fits t2 es1 (SetTable.grown es1.size); have r3 := relayAll_ris t2 es1 (SetTable.grown es1.size); have l3 := relayAll_led t2 es1 (SetTable.grown es1.size)
    generalize relayAll t2 es1 (SetTable.grown es1.size) = Z at pm f3 r3 l3 ⊢
    have e2 : Z.1.size = es1.size := by have q := pm.length_eq; rwa [Array.length_toList, Array.length_toList] at q
    have b2 : Z.1.size < scanBound := e2 ▸ hb
    refine wpAny_bind (hg _ _ _ (wpAny_bind (wpAny_storeSet_of ho1 rfl (wpAny_pure (hR _ _ (sb.trans (Heap.SameBut.update _ a _)) (ss_stored ho1 hx rfl (fun e he => g1.1 e (pm.mem_iff.mp he)) ((pm.map tx).nodup_iff.mpr g1.2) b2 f3 r3 (hl.imp id fun z => l3 ▸ z)) (pm.map tx))) (fits_of_scanBound b2))))
  · exact wpAny_pure (hR _ _ sb (ss_stored ho hx hd g1.1 g1.2 hb hf hr hl) (.refl _))
end
end Tv
namespace Tv
open PySem PySem.Spec PyProof.Rows L2 RZ StX
section
variable {P : Program} {w : World} {h h' : Heap} {a : Addr} {L : List Str} {A : Around} {E : Value → Shared → Prop} {s : Shared}
theorem ss_add {k : Str} {tk : Tok} {Q : Bool → Shared → Prop} (R : SS w s.heap a L) (room : L.length + 1 < scanBound)
    (hQ : ∀ b h' L', Heap.SameBut a s.heap h' → SS w h' a L' → (∀ y, y ∈ L' ↔ y = k ∨ y ∈ L) → L'.length ≤ L.length + 1 → Q b { s with heap := h' }) : wpAny (model P w) A (setAddHashed a (.str k tk) ((SK P w).hash k)) Q E s := by
  obtain ⟨o, es, ep, t, ob, ⟨g, hL, nd⟩, ⟨hb, hf⟩, hr, hl⟩ := id R
  have isk := strKind_is P w k tk
  have scn : (Value.str k tk).scannable = true := rfl
  have el := tx_el (P := P) g
  have hn : es.size = L.length := by rw [← hL, List.length_map, Array.length_toList]
  unfold setAddHashed setAddHashedIn
  refine wpAny_holding (wpAny_bind (wpAny_setState_of ob.1 ob.2.2 hf ?_)); dsimp only
  rw [byScan_of scn hb el]; simp only [↓reduceIte]
  unfold setAddByScan
  refine wpAny_bind (wpAny_bind (wpAny_rule (wpAny_bind (wpAny_setScan_of isk ob.1 ob.2.2 hf el ?_))))
  generalize hfi : List.findIdx? (fun e => (SK P w).is k e.2) es.toList = fi
  rcases fi with _ | j <;> dsimp only
  · have hk : k ∉ es.toList.map tx := fun z => by
      obtain ⟨e, he, q⟩ := List.mem_map.mp z
      have c := List.findIdx?_eq_none_iff.mp hfi e he
      rw [(tx_is (g e he) k).mpr q] at c; cases c
    have pm := layNew_perm t es ((SK P w).hash k) (.str k tk); have f1 := layNew_fits t es ((SK P w).hash k) (.str k tk); have r1 := layNew_ris t es ((SK P w).hash k) (.str k tk) hr; have l1 := layNew_led t es ((SK P w).hash k) (.str k tk)
    generalize layNew t es ((SK P w).hash k) (.str k tk) = Z at pm f1 r1 l1 ⊢
    obtain ⟨es1, t1, wd, gv⟩ := Z
    dsimp only at pm f1 r1 l1 ⊢
    obtain ⟨g1, pk, nd1, hz⟩ := tx_perm pm g (by rw [hL]; exact nd) hk
    have led1 : w.params.followText "set-order" = true ∨ t1.led = true := hl.imp id fun z => l1 ▸ z
    have b1 : es1.size < scanBound := by rw [hz, hn]; exact room
    have fin : ∀ h' L', Heap.SameBut a s.heap h' → SS w h' a L' → L'.Perm (es1.toList.map tx) → Q true { s with heap := h' } := fun h' L' sb r pL => hQ _ h' L' sb r (fun y => by rw [pL.mem_iff, pk.mem_iff, List.mem_cons, hL]) (by rw [pL.length_eq, pk.length_eq, List.length_cons, hL]; exact Nat.le_refl _)
    have gw : ∀ (b : Bool) (z : Shared) (Q' : Unit → Shared → Prop), Q' () z → wpAny (model P w) A (match b with | true => rule "set.scan.the-table-gave-way" | false => pure ()) Q' E z := fun b z Q' q => by cases b <;> first | exact wpAny_pure q | exact wpAny_rule q
    refine wpAny_bind (gw _ _ _ ?_); split
    · refine wpAny_bind ?_; rw [hashByValue_scannable 8 scn]
      refine wpAny_pure (ss_lay (fun b z Q' q => by cases b <;> first | exact wpAny_pure q | exact wpAny_rule q) ob ⟨g1, nd1⟩ b1 (by first | (split <;> first | exact f1 | exact SetTable.fits_plain_off f1) | exact f1) (by first | (split <;> exact r1) | exact r1) (by first | (split <;> exact led1) | exact led1) fun h' L' sb r pL => ?_)
      dsimp only; exact wpAny_pure (fin h' L' sb r pL)
    · refine wpAny_bind (wpAny_pure ?_); simp only [↓reduceIte]
      refine ss_lay (fun b z Q' q => by cases b <;> first | exact wpAny_pure q | exact wpAny_rule q) ob ⟨g1, nd1⟩ b1 f1 r1 led1 fun h' L' sb r pL => ?_
      dsimp only; exact wpAny_pure (fin h' L' sb r pL)
  · obtain ⟨hj, pj, _⟩ := List.findIdx?_eq_some_iff_getElem.mp hfi
    have kL : k ∈ L := by rw [← hL]; exact List.mem_map.mpr ⟨_, List.getElem_mem hj, (tx_is (g _ (List.getElem_mem hj)) k).mp pj⟩
    exact wpAny_pure (wpAny_pure (hQ _ s.heap L (Heap.SameBut.refl a s.heap) R (fun y => ⟨.inr, fun z => z.elim (fun e => e ▸ kL) id⟩) (Nat.le_succ _)))
end
end Tv
namespace Tv
open PySem PySem.Spec PyProof.Rows L2 RZ StX
section
variable {P : Program} {w : World} {A : Around} {E : Value → Shared → Prop} {s : Shared}
/-- what stands in the set behind the first i texts -/
def Sofar (xs : List Str) (i : Nat) (L : List Str) : Prop := (∀ y, y ∈ L ↔ y ∈ xs.take i) ∧ L.length ≤ i
theorem Sofar.next {xs L L' : List Str} {i : Nat} {k : Str} (g : Sofar xs i L) (hk : xs[i]? = some k) (h : ∀ y, y ∈ L' ↔ y = k ∨ y ∈ L) (hl : L'.length ≤ L.length + 1) : Sofar xs (i + 1) L' := by
  refine ⟨fun y => ?_, by have := g.2; omega⟩
  rw [h y, g.1 y, List.take_add_one, hk, List.mem_append]
  constructor
  · rintro (z | z)
    · exact .inr (z ▸ List.mem_singleton.mpr rfl)
    · exact .inl z
  · rintro (z | z)
    · exact .inr z
    · exact .inl (List.mem_singleton.mp z)
theorem ss_loop {I : Addr} {fp wr : List Addr} {G : Array GenState → Array GenState → Prop} {n : Nat} {Pv : Nat → Value → Prop} {St : Nat → Shared → Prop} {R : Result → Shared → Prop} (W : WalksS P w A.in1 I fp wr G n Pv St) (D : Addr) (hD : D ∉ fp) (xs : List Str)
    (hn : xs.length = n ∧ n + 1 < scanBound) (hv : ∀ i v, Pv i v → ∃ k t, xs[i]? = some k ∧ v = .str k t) : ∀ (m i : Nat) (s : Shared), i + m = n → St i s → (∃ L, SS w s.heap D L ∧ Sofar xs i L) →
      (∀ s' L, Moved (D :: wr) G s s' → SS w s'.heap D L → Sofar xs n L → R (.ok (.ret .none)) s') → codeAny (model P w) A (.builtin "set.update.loop" ⟨[.ref D, .ref I], []⟩) R s := by
  have hDw : D ∉ wr := fun z => hD (W.sub _ z)
  have up : ∀ b ∈ wr, b ∈ D :: wr := fun b z => List.mem_cons_of_mem _ z
  intro m
  induction m with
  | zero =>
    rintro i s rfl hst ⟨L, hS, g⟩ hR
    refine codeAny_builtin F.entry_set_update_loop ?_; rw [Around.under_plainId F.plain_set_update_loop _]
    show wpAny _ A.in1 (pyNext (.ref I) >>= _) _ _ s
    refine wpAny_bind (W.done s _ _ hst fun s2 mv => ?_); show wpAny _ A.in1 (ret Value.none) _ _ s2
    exact wpAny_pure (hR s2 L (mv.mono up) (hS.move fun o e => mv.heap D o hDw e) g)
  | succ m ih =>
    rintro i s him hst ⟨L, hS, g⟩ hR
    have lt : i < n := by omega
    have gl := g.2
    refine codeAny_builtin F.entry_set_update_loop ?_; rw [Around.under_plainId F.plain_set_update_loop _]
    show wpAny _ A.in1 (pyNext (.ref I) >>= _) _ _ s
    refine wpAny_bind (W.item i s _ _ lt hst fun v s2 hP hst2 mv => ?_)
    obtain ⟨k, t, hk, rfl⟩ := hv i v hP
    show wpAny _ A.in1 (holding [Value.str k t] (setAdd D (.str k t)) >>= _) _ _ s2
    refine wpAny_bind (wpAny_holding ?_); unfold setAdd
    refine wpAny_holding (wpAny_bind ((SK P w).pyHash (k := k) (strKind_is _ _ _ _) ?_))
    refine ss_add (s := { s2 with toks := s2.toks + 1 }) (hS.move fun o e => mv.heap D o hDw e) (by omega) fun _ h' L' sb r my ml => ?_
    refine wpAny_pure ⟨plainId_quiet F.plain_set_update_loop _, ih (i + 1) _ (by omega) (W.frame _ s2 _ _ hst2 (Nat.le_succ _) fun b hb o e => ?_) ⟨L', r, g.next hk my ml⟩ fun s3 L3 mv3 r3 g3 => ?_⟩
    · rw [sb.2 b fun z => hD (z ▸ hb)]; exact e
    · refine hR s3 L3 (Moved.trans W.gtrans ((mv.mono up).then_heap (Nat.le_succ _) fun b o hb e => ?_) mv3) r3 g3
      rw [sb.2 b fun z => hb (z ▸ List.mem_cons_self)]; exact e
theorem ss_empty {h : Heap} {a : Addr} (w : World) (e : h.get? a = some (set0 w)) : SS w h a [] :=
  ⟨_, #[], 0, _, ⟨e, ⟨rfl, rfl, rfl⟩, rfl⟩, ⟨fun e he => by simp at he, rfl, List.nodup_nil⟩, ⟨by decide, rfl⟩, List.Pairwise.nil, by
    show _ ∨ (!w.params.followText "set-order") = true
    cases w.params.followText "set-order" <;> simp⟩
end
end Tv


namespace Tv
open PySem PySem.Spec PyProof.Rows L2 RZ StX
abbrev MadeS (w : World) (xs : List Str) (s : Shared) (h' : Heap) : Prop :=
  (∃ L, SS w h' s.heap.objs.size L ∧ (∀ y, y ∈ L ↔ y ∈ xs) ∧ L.length ≤ xs.length) ∧ ∀ b o, s.heap.get? b = some o → h'.get? b = some o
theorem strs_in : ∀ {vs : List Value} {xs : List Str} {i : Nat} {v : Value}, StrsAre vs xs → vs[i]? = some v → ∃ k t, xs[i]? = some k ∧ v = .str k t
  | _, _, _, _, .nil, e => by simp at e
  | _, _, 0, v, .cons y t r, e => ⟨y, t, rfl, (Option.some.inj (by simpa using e)).symm⟩
  | _, _, i + 1, v, .cons y t r, e => by
    obtain ⟨k, t', e1, e2⟩ := strs_in (i := i) r (by simpa using e)
    exact ⟨k, t', by simpa using e1, e2⟩

theorem call_setLS {P : Program} {w : World} {A : Around} {E : Value → Shared → Prop} {s : Shared} {l : Addr} {its : Array Value} (xs : List Str) {Q : Value → Shared → Prop} (hh : A.handled = none) (hl : s.heap.IsList l its)
    (hit : StrsAre its.toList xs) (hb : xs.length + 1 < scanBound) (h : ∀ (h' : Heap) (tk : Nat), MadeS w xs s h' → Q (.ref s.heap.objs.size) { s with heap := h', toks := tk }) :
    wpAny (model P w) A (call (.type "set") [.ref l]) Q E s := by
  have q1 : xs.length = its.size := by have q := StrsAre.length hit; simpa using q.symm
  have c1 := F.called_set.made; have c2 := F.called_set.sub
  obtain ⟨_, _, c3⟩ := F.called_set.mro
  refine wpAny_call (codeAny_of_tree (wpAny_pure ⟨Code.quiet_builtin _ (by decide +kernel), codeAny_builtin F.entry_type_call ?_⟩))
  rw [Around.under_plain (weight_type_call_type "set" [.ref l] []) rfl]
  have c4 := F.called_set.notType; have c5 := F.called_set.canCreate; have c6 := F.typeCall_set_1 (.ref l)
  repeat (any_goals (first | assumption | wp_step))
  refine codeAny_mono (code_set_led1 (.ref l) (E := E) (Q₁ := fun x s1 => x = .ref s.heap.objs.size ∧ s1 = { s with heap := s.heap.push (set0 w) }) ⟨rfl, rfl⟩) fun r s1 hr => ?_
  rcases r with _ | fl
  · exact hr
  cases fl with
  | ret x =>
    obtain ⟨rfl, rfl⟩ := hr
    have hS : (s.heap.push (set0 w)).get? s.heap.objs.size = some (set0 w) := Heap.get?_push_size _ rfl
    have hz : (s.heap.push (set0 w)).objs.size = s.heap.objs.size + 1 := Heap.size_push ..
    have c7 := F.called_set.init.lookup; have c8 := F.called_set.init.bind (.ref s.heap.objs.size)
    repeat (any_goals (first | assumption | wp_step))
    refine codeAny_mono (codeAny_call_builtin (R := wants (fun r s2 => r = Value.none ∧ ∃ h' tk, s2 = { s with heap := h', toks := tk } ∧ MadeS w xs s h') E) F.called_set.init.plain F.entry_set_init (check_set_init_1 ⟨_, hS, rfl⟩ ?_)) fun r2 s2 hr2 => ?_
    · obtain ⟨⟨_, d0, _, sl0⟩, hol, rfl, nl, rfl⟩ := hl
      have hol' := Heap.get?_push_of_some (h := s.heap) (set0 w) hol
      have hlt : l < s.heap.objs.size := Heap.lt_size hol
      have hT : (s.heap.push (set0 w)).IsList l its := ⟨_, hol', rfl, nl, rfl⟩
      have c9 := F.sub_list_set; have c10 := F.sub_list_frozenset
      have c11 : (Value.type "list" == Value.type "dict") = false := by decide
      unfold Builtin.«set.__init__» noKeywords Builtin.Frozenset.updateFrom
      generalize hPI : pyIter = PI
      wp_walk
      subst hPI
      refine wpAny_pyIter_list hT (wpAny_bind (wpAny_runValue ?_))
      have n1 : l ≠ (s.heap.push (set0 w)).objs.size := by rw [Heap.size_push]; exact Nat.ne_of_lt (Nat.lt_succ_of_lt hlt)
      have n2 : s.heap.objs.size ∉ [(s.heap.push (set0 w)).objs.size, l] := fun z => by
        rcases List.mem_cons.mp z with z | z
        · rw [Heap.size_push] at z; exact absurd z (Nat.ne_of_lt (Nat.lt_succ_self _))
        · exact absurd (List.mem_singleton.mp z) (Nat.ne_of_gt hlt)
      have W := (Walks.list (prog := P) (w := w) (A := A.in1.in1.in1) (by simp [hh]) (s.heap.push (set0 w)).objs.size l n1 its).toS
      refine ss_loop W s.heap.objs.size n2 xs ⟨q1, by omega⟩ (fun i v hv => ?_) its.size 0 _ (Nat.zero_add _)
        ⟨⟨_, Heap.get?_push_size _ rfl, rfl, rfl⟩, hT.push _⟩ ⟨[], ss_empty w (Heap.get?_push_of_some _ hS), fun y => by simp, Nat.le_refl _⟩ ?_
      · have q : its.toList[i]? = some v := by rw [Array.getElem?_toList]; exact hv
        exact strs_in hit q
      · rintro ⟨h', g2, d', tk', os'⟩ L hm hS' g'
        obtain rfl : g2 = s.gens := hm.gens
        obtain rfl : d' = s.drawn := hm.drawn
        obtain rfl : os' = s.os := hm.os
        rw [← q1] at g'
        refine wpAny_pure (wpAny_pure ⟨rfl, h', tk', rfl, ⟨L, hS', fun y => by rw [g'.1 y, List.take_length], g'.2⟩, fun b o e => ?_⟩)
        have hb0 : b < s.heap.objs.size := Heap.lt_size e
        refine hm.heap b o (fun z => ?_) (Heap.get?_push_of_some _ (Heap.get?_push_of_some _ e))
        rcases List.mem_cons.mp z with z | z
        · exact absurd z (Nat.ne_of_lt hb0)
        · have zz := List.mem_singleton.mp z
          rw [Heap.size_push] at zz
          exact absurd hb0 (by rw [zz]; exact Nat.not_lt.mpr (Nat.le_succ _))
    · rcases r2 with _ | fl2
      · exact hr2
      cases fl2 with
      | ret r =>
        obtain ⟨rfl, h', tk, rfl, m⟩ := hr2
        repeat (any_goals (first | assumption | wp_step))
        exact h _ _ m
      | _ => exact hr2.elim
  | _ => exact hr.elim

theorem call_setTS {P : Program} {w : World} {A : Around} {E : Value → Shared → Prop} {s : Shared} {l : Addr} {its : Array Value} (xs : List Str) {Q : Value → Shared → Prop} (hh : A.handled = none) (hl : s.heap.IsTuple l its)
    (hit : StrsAre its.toList xs) (hb : xs.length + 1 < scanBound) (h : ∀ (h' : Heap) (tk : Nat), MadeS w xs s h' → Q (.ref s.heap.objs.size) { s with heap := h', toks := tk }) :
    wpAny (model P w) A (call (.type "set") [.ref l]) Q E s := by
  have q1 : xs.length = its.size := by have q := StrsAre.length hit; simpa using q.symm
  have c1 := F.called_set.made; have c2 := F.called_set.sub
  obtain ⟨_, _, c3⟩ := F.called_set.mro
  refine wpAny_call (codeAny_of_tree (wpAny_pure ⟨Code.quiet_builtin _ (by decide +kernel), codeAny_builtin F.entry_type_call ?_⟩))
  rw [Around.under_plain (weight_type_call_type "set" [.ref l] []) rfl]
  have c4 := F.called_set.notType; have c5 := F.called_set.canCreate; have c6 := F.typeCall_set_1 (.ref l)
  repeat (any_goals (first | assumption | wp_step))
  refine codeAny_mono (code_set_led1 (.ref l) (E := E) (Q₁ := fun x s1 => x = .ref s.heap.objs.size ∧ s1 = { s with heap := s.heap.push (set0 w) }) ⟨rfl, rfl⟩) fun r s1 hr => ?_
  rcases r with _ | fl
  · exact hr
  cases fl with
  | ret x =>
    obtain ⟨rfl, rfl⟩ := hr
    have hS : (s.heap.push (set0 w)).get? s.heap.objs.size = some (set0 w) := Heap.get?_push_size _ rfl
    have hz : (s.heap.push (set0 w)).objs.size = s.heap.objs.size + 1 := Heap.size_push ..
    have c7 := F.called_set.init.lookup; have c8 := F.called_set.init.bind (.ref s.heap.objs.size)
    repeat (any_goals (first | assumption | wp_step))
    refine codeAny_mono (codeAny_call_builtin (R := wants (fun r s2 => r = Value.none ∧ ∃ h' tk, s2 = { s with heap := h', toks := tk } ∧ MadeS w xs s h') E) F.called_set.init.plain F.entry_set_init (check_set_init_1 ⟨_, hS, rfl⟩ ?_)) fun r2 s2 hr2 => ?_
    · obtain ⟨⟨_, d0, _, sl0⟩, hol, rfl, nl, rfl⟩ := hl
      have hol' := Heap.get?_push_of_some (h := s.heap) (set0 w) hol
      have hlt : l < s.heap.objs.size := Heap.lt_size hol
      have hT : (s.heap.push (set0 w)).IsTuple l its := ⟨_, hol', rfl, nl, rfl⟩
      have c9 := F.sub_tuple_set; have c10 := F.sub_tuple_frozenset
      have c11 : (Value.type "tuple" == Value.type "dict") = false := by decide
      unfold Builtin.«set.__init__» noKeywords Builtin.Frozenset.updateFrom
      generalize hPI : pyIter = PI
      wp_walk
      subst hPI
      refine wpAny_pyIter_tuple hT (wpAny_bind (wpAny_runValue ?_))
      have n1 : l ≠ (s.heap.push (set0 w)).objs.size := by rw [Heap.size_push]; exact Nat.ne_of_lt (Nat.lt_succ_of_lt hlt)
      have n2 : s.heap.objs.size ∉ [(s.heap.push (set0 w)).objs.size, l] := fun z => by
        rcases List.mem_cons.mp z with z | z
        · rw [Heap.size_push] at z; exact absurd z (Nat.ne_of_lt (Nat.lt_succ_self _))
        · exact absurd (List.mem_singleton.mp z) (Nat.ne_of_gt hlt)
      have W := (Walks.tuple (prog := P) (w := w) (A := A.in1.in1.in1) (by simp [hh]) (s.heap.push (set0 w)).objs.size l n1 its).toS
      refine ss_loop W s.heap.objs.size n2 xs ⟨q1, by omega⟩ (fun i v hv => ?_) its.size 0 _ (Nat.zero_add _)
        ⟨⟨_, Heap.get?_push_size _ rfl, rfl, rfl⟩, hT.push _⟩ ⟨[], ss_empty w (Heap.get?_push_of_some _ hS), fun y => by simp, Nat.le_refl _⟩ ?_
      · have q : its.toList[i]? = some v := by rw [Array.getElem?_toList]; exact hv
        exact strs_in hit q
      · rintro ⟨h', g2, d', tk', os'⟩ L hm hS' g'
        obtain rfl : g2 = s.gens := hm.gens
        obtain rfl : d' = s.drawn := hm.drawn
        obtain rfl : os' = s.os := hm.os
        rw [← q1] at g'
        refine wpAny_pure (wpAny_pure ⟨rfl, h', tk', rfl, ⟨L, hS', fun y => by rw [g'.1 y, List.take_length], g'.2⟩, fun b o e => ?_⟩)
        have hb0 : b < s.heap.objs.size := Heap.lt_size e
        refine hm.heap b o (fun z => ?_) (Heap.get?_push_of_some _ (Heap.get?_push_of_some _ e))
        rcases List.mem_cons.mp z with z | z
        · exact absurd z (Nat.ne_of_lt hb0)
        · have zz := List.mem_singleton.mp z
          rw [Heap.size_push] at zz
          exact absurd hb0 (by rw [zz]; exact Nat.not_lt.mpr (Nat.le_succ _))
    · rcases r2 with _ | fl2
      · exact hr2
      cases fl2 with
      | ret r =>
        obtain ⟨rfl, h', tk, rfl, m⟩ := hr2
        repeat (any_goals (first | assumption | wp_step))
        exact h _ _ m
      | _ => exact hr2.elim
  | _ => exact hr.elim

end Tv

namespace Tv
open PySem PySem.Spec PyProof.Rows L2 RZ StX
/-- the set of texts at a, as the layer sees it -/
def SetSO (w : World) (a : Addr) (L : List Str) : HO := .ext fun h => SS w h a L
def rSetS (K : PySem.W.Frag) (w : World) : List V → Hp → VK → Prop := fun zs H Q => ∃ (l : Addr) (xs : List Str), zs = [V.ref l] ∧ (SqL K H l (xs.map V.str) ∨ SqT K H l (xs.map V.str)) ∧ xs.length < 64 ∧
  ∀ a L, H a = none → (∀ y, y ∈ L ↔ y ∈ xs) → L.length < 64 → Q (.ref a) (upd H a (SetSO w a L))
def rSortedSS (w : World) : List V → Hp → VK → Prop := fun vs H Q => ∃ (a : Addr) (L : List Str), vs = [V.ref a] ∧ H a = some (SetSO w a L) ∧ L.length < 64 ∧
  ∀ (ys : List Str) (p : Addr), sortedS ys = true → ys.Nodup → (∀ y, y ∈ ys ↔ y ∈ L) → ys.length ≤ L.length → H p = none → Q (.ref p) (upd H p (.lst (ys.map V.str)))
theorem setSO_new {w : World} {P : Program} {H : Hp} {h : Heap} {a : Addr} {L : List Str} (R : SS w h a L) : ObjOk P w H h a (SetSO w a L) :=
  let ⟨o, _, _, _, x, _⟩ := id R
  ⟨R, ⟨o, x.1⟩, fun _ _ p k => p.move k⟩
theorem txs_of : ∀ {l : List (Int × Value)} {w : World}, (∀ e ∈ l, TxE w e) → StrsAre (l.map (·.2)) (l.map tx)
  | [], _, _ => .nil
  | e :: l, w, h => by
    obtain ⟨x, t, rfl⟩ := h e List.mem_cons_self
    exact .cons x t (txs_of fun e he => h e (List.mem_cons_of_mem _ he))
def vtx (v : Value) : Str := match v with | .str x _ => x | _ => Str.empty
theorem strs_vtx : ∀ {l : List Value}, (∀ v ∈ l, ∃ x t, v = Value.str x t) → StrsAre l (l.map vtx)
  | [], _ => .nil
  | v :: l, h => by
    obtain ⟨x, t, rfl⟩ := h v List.mem_cons_self
    exact .cons x t (strs_vtx fun u hu => h u (List.mem_cons_of_mem _ hu))
section
variable {X : Cx}
theorem cr_setS (hc : X.calm = true) : CallR X (.type "set") (rSetS X.K X.w) := by
  intro pins s σ H xs us Q I r h
  obtain ⟨l, ys, rfl, hl, hf, q⟩ := h
  rw [Vals.ref1 r]
  have hn : H s.heap.objs.size = none := I.hok.fresh (Nat.le_refl _)
  have fin : ∀ (h' : Heap) (tk : Nat), MadeS X.w ys s h' → EP X pins σ Q (.ref s.heap.objs.size) { s with heap := h', toks := tk } := fun h' tk ⟨⟨L, R, m, ml⟩, k⟩ =>
    ⟨.ref s.heap.objs.size, upd H s.heap.objs.size (SetSO X.w s.heap.objs.size L), I.laid (t' := tk) k (Nat.le_refl _) (setSO_new R), rfl, q _ L hn m (by omega)⟩
  rcases hl with hl | hl
  · obtain ⟨its, rv, pl, hz⟩ := I.list hl
    exact call_setLS ys (I.ok.hd hc) pl.isList (by simpa using rv.strs) (by unfold scanBound; omega) fin
  · obtain ⟨its, rv, pl, hz⟩ := I.tuple hl
    exact call_setTS ys (I.ok.hd hc) (its := its.toArray) pl (by simpa using rv.strs) (by unfold scanBound; omega) fin
theorem cr_sortedSS (hc : X.calm = true) : CallR X (.builtin "sorted") (rSortedSS X.w) := by
  intro pins s σ H vs us Q I r h
  obtain ⟨a, L, rfl, ha, h64, q⟩ := h
  obtain ⟨o, es, ep, t, ob, ⟨g, hL, nd⟩, ⟨hb, hf⟩, hr, hl⟩ := (show SS X.w s.heap a L from (I.hok a _ ha).1)
  rw [Vals.ref1 r]
  refine Calls.call_function_entry PyProof.Rows.kind_sorted PyProof.Rows.plain_sorted PyProof.Rows.entry_sorted (PyProof.Rows.args_sorted1 _) ?_
  unfold Builtin.«sorted»
  refine wpAny_bind (m := checkCount "sorted" 1 1 _) (wpAny_pure (wpAny_bind (L2.collect_set (A := X.A.in1) (I.ok.hd hc) ⟨o, ob.1, ob.2.1.1, ob.2.2⟩ hf hb hr hl fun s1 zs k1 hz g1 o1 pm => ?_)))
  have hS : StrsAre zs (zs.map vtx) := strs_vtx fun v hv => by
    obtain ⟨e, he, q⟩ := List.mem_map.mp (pm.mem_iff.mp hv)
    obtain ⟨x, t, rfl⟩ := g e he
    exact ⟨x, t, q.symm⟩
  have pk : (zs.map vtx).Perm L := by
    have q := pm.map vtx
    rw [List.map_map, show vtx ∘ (fun e : Int × Value => e.2) = tx from rfl, hL] at q
    exact q
  have zl : zs.length = L.length := by have q := pk.length_eq; rwa [List.length_map] at q
  refine wpAny_bind (wpAny_newList ?_ (by rw [zl, sizeLine_eq]; omega))
  have hoL : (s1.heap.push (seqObj "list" zs.toArray 0)).get? s1.heap.objs.size = some (seqObj "list" zs.toArray 0) := Heap.get?_push_size _ rfl
  refine wpAny_bind (wpAny_holding (wpAny_call_entry PyProof.Rows.slot_list_sort ⟨_, hoL, rfl⟩ PyProof.Rows.entry_list_sort (list_sort_treeK strKind_oneLt hoL hS.keysOf (fun v₁ v₂ rest e => keyKind_strs (by rw [← e]; exact hS)) (by rw [zl]; exact h64) fun st' hp hs => ⟨_, rfl, ?_⟩) (PyProof.Rows.args_list_sort _)))
  obtain ⟨ys, y1, y2, y3⟩ := sorted_out_str hS hp hs
  obtain ⟨c, hc'⟩ := PyProof.Rows.sortedHeap_at (vs := zs) (out := (arrOf st').map (·.2)) hoL
  have yp : ys.Perm L := y2.trans pk
  have hlen : (ys.map V.str).length ≤ sizeLine := by rw [List.length_map, yp.length_eq, sizeLine_eq]; omega
  have hn : H s1.heap.objs.size = none := I.hok.fresh hz
  have kk : ∀ b u, s.heap.get? b = some u → (sortedHeap (s1.heap.push (seqObj "list" zs.toArray 0)) s1.heap.objs.size zs ((arrOf st').map (·.2))).get? b = some u := fun b u e => by
    have q := k1 b u e
    have lt := Heap.lt_size q
    rw [PyProof.Rows.sortedHeap_old (Nat.ne_of_lt lt) (by rw [size_push']; exact Nat.lt_succ_of_lt lt)]
    exact Heap.get?_push_of_some _ q
  have J : Inv X pins σ (upd H s1.heap.objs.size (.lst (ys.map V.str))) { s with heap := sortedHeap (s1.heap.push (seqObj "list" zs.toArray 0)) s1.heap.objs.size zs ((arrOf st').map (·.2)), gens := s1.gens, drawn := s1.drawn, toks := s1.toks } :=
    I.call (ch := []) (Un.laid kk hz hn) (I.hok.laid kk hz (show ObjOk X.prog X.w _ _ _ (.lst (ys.map V.str)) from ⟨hlen, ((arrOf st').map (·.2)).toList, c, vals_of_strs y1, by rw [Array.toArray_toList]; exact hc'⟩)) (by rw [g1]; exact I.bare) (fun _ z => nomatch z)
  refine wpAny_pure ⟨_, rfl, ?_⟩
  obtain ⟨hp0, ge, dr, tk, os⟩ := s
  obtain ⟨hp1, ge1, dr1, tk1, os1⟩ := s1
  obtain rfl : os1 = os := o1
  exact ⟨.ref hp1.objs.size, _, J, rfl, q ys _ y3 (yp.nodup_iff.mpr nd) (fun y => yp.mem_iff) (Nat.le_of_eq yp.length_eq) hn⟩
end
section
variable {X : Cx} (K : PySem.W.Frag) (w : World)
theorem bSetS (hc : X.calm = true) (h : X.K = K := by exact rfl) (hw : X.w = w := by exact rfl) : CallR X (.type "set") (rSetS K w) := h ▸ hw ▸ cr_setS hc
theorem bSortSS (hc : X.calm = true) (hw : X.w = w := by exact rfl) : CallR X (.builtin "sorted") (rSortedSS w) := hw ▸ cr_sortedSS hc
theorem bSortStr (h : X.K = K := by exact rfl) : CallR X (.builtin "sorted") (rSortedS K) := h ▸ cr_sortedS
end
section
variable {K : PySem.W.Frag} {ρ : Rho} {U : UU} {P : W → UU → Prop} {te : TE} {w : World}
theorem dp_strV {F : Hp} : ∀ {vs : List V} {xs : List Str}, DpAll K F vs (xs.map PyData.str) → vs = xs.map V.str
  | [], [], _ => rfl
  | _ :: _, x :: xs, .cons h t => by
    cases h
    rw [dp_strV t]
    rfl
/-- sorted(set(xs)), texts -/
theorem ev_sortSS (h : EV K te ρ U fun x U1 => ∃ xs : List Str, (x = .l (xs.map .str) ∨ x = .t (xs.map .str)) ∧ xs.length < 64 ∧ ∀ ys : List Str, sortedS ys = true → ys.Nodup → (∀ y, y ∈ ys ↔ y ∈ xs) → P (.l (ys.map .str)) U1) :
    EV K (tCB (rSortedSS w) (tCons (tCB (rSetS K w) (tCons te tNil)) tNil)) ρ U P := fun σ F H sl sp Q k =>
  h σ F H sl sp _ fun v x F1 U1 H1 k1 s1 r1 ⟨xs, ex, hz, q⟩ => by
    have go : ∀ l : Addr, (SqL K H1 l (xs.map V.str) ∨ SqT K H1 l (xs.map V.str)) → rSetS K w [.ref l] H1 fun y H2 => rSortedSS w [y] H2 Q := fun l hl => by
      refine ⟨l, xs, rfl, hl, hz, fun a L hn m ml => ?_⟩
      obtain ⟨s2, k2⟩ := s1.fix (o := SetSO w a L) hn
      refine ⟨a, L, rfl, upd_same, ml, fun ys p so nd my _ hp => ?_⟩
      obtain ⟨s3, k3⟩ := s2.fix (o := .lst (ys.map V.str)) hp
      exact k _ (.l (ys.map .str)) _ _ _ ((k1.trans k2).trans k3) s3 (.lst (SqL.of upd_same) (rpAll_strs _)) (q ys so nd fun y => by rw [my y, m y])
    rcases ex with rfl | rfl
    · cases r1 with
      | lst ha ra =>
        obtain rfl := dp_strV ra
        exact go _ (.inl (s1.sub.seq ha))
    · cases r1 with
      | tup ha ra =>
        obtain rfl := dp_strV ra
        exact go _ (.inr (sqt_mono s1.sub ha))
end
end Tv

namespace Tv
open PySem PySem.Spec PyProof.Rows L2 RZ StX
section
variable {K : PySem.W.Frag} {ρ : Rho} {U : UU} {tk tv : TE} {wi : TI} {g : TG}
/-- {k: v for x in xs}: a new dict, which may go on to change -/
theorem ev_dc {tt : TT} {vs : List Nat} {P : W → UU → Prop} (hg : Own g vs) (h : IW K wi ρ U fun n item U1 => ∀ D, U1 D = none → ∃ Iv : Nat → UU → Prop, Iv 0 (put U1 D (.k [])) ∧
      (∀ i V, i < n → Iv i V → GW K g (.d (item i)) (wipeR ρ vs) V fun ρ2 U2 => ET K tt ρ2 U2 fun b U3 =>
        (b = true → EV K tk ρ2 U3 fun y U4 => EV K tv ρ2 U4 fun w U5 => ∃ kvs key, y = .d (kD key) ∧ U5 D = some (.k kvs) ∧ kvs.length < sizeLine ∧ Iv (i + 1) (put U5 D (.k (storeK kvs key w)))) ∧ (b = false → Iv (i + 1) U3)) ∧
      ∀ V, Iv n V → P (.r D) V) : EV K (tDc wi g tt tk tv vs) ρ U P := fun σ F H sl sp Q k =>
  h σ F H sl sp _ fun J F1 U1 H1 n item k1 s1 wk hD => fun D hDn => by
    obtain ⟨Iv, h0, hs, hd⟩ := hD D (s1.free hDn).2
    obtain ⟨s2, k2⟩ := s1.newB (b := .k []) (o := .dK []) hDn ⟨[], upd_same, .nil⟩
    refine ⟨fun i m H2 => m = n - i ∧ i ≤ n ∧ ∃ F2 V, Kp F1 (put U1 D (.k [])) (upd H1 D (.dK [])) F2 V H2 ∧ Sep K F2 V H2 ∧ Iv i V, ⟨n, by simp, Nat.zero_le _, F1, _, .refl, s2, h0⟩, ?_⟩
    rintro i m H2 ⟨rfl, hi, F2, V, k3, s3, inv⟩
    have sub : Same F1 H2 := k3.sub.trans s3.sub
    by_cases hlt : i < n
    · refine .inr ⟨wk.go i H2 hlt sub, fun H' => ∃ F' V', Kp F1 (put U1 D (.k [])) (upd H1 D (.dK [])) F' V' H' ∧ Sep K F' V' H' ∧ Iv (i + 1) V', fun H' ⟨F', V', a, b, c⟩ => ⟨n - (i + 1), by omega, rfl, hlt, F', V', a, b, c⟩, fun x H3 y => ?_⟩
      have own : ∀ R : L2.St → Hp → Prop, g x (wipe σ vs) H3 R → g x (wipe σ vs) H3 fun σ2 H2 => wipe σ2 vs = wipe σ vs ∧ R σ2 H2 := fun R q => by
        have z := hg.own x (wipe σ vs) H3 R q
        rwa [wipe_idem] at z
      obtain ⟨F3, k4, s4, d4⟩ := wk.yld i F2 V H2 x H3 hlt k3.sub s3 y
      refine own _ (hs i V hlt inv (wipe σ vs) F3 H3 x ((sl_wipe (sl.mono k1.sub) vs).mono (k3.sub.trans k4.sub)) s4 d4 _ fun σ4 F4 H4 ρ4 U4 k5 sl4 s5 q => ?_)
      refine q σ4 F4 H4 sl4 s5 _ fun b F5 U5 H5 k6 s6 ⟨qt, qf⟩ => ?_
      have kd := ((k3.trans k4).trans k5).trans k6
      cases b with
      | true =>
        rw [if_pos rfl]
        refine qt rfl σ4 F5 H5 (sl4.mono k6.sub) s6 _ fun v y F6 U6 H6 k7 s7 r7 h7 => h7 σ4 F6 H6 (sl4.mono (k6.sub.trans k7.sub)) s7 _ fun u w F7 U7 H7 k8 s8 r8 ⟨kvs, key, ey, hu, hz, inv2⟩ => ?_
        subst ey
        have ev := dp_key r7
        obtain ⟨fD, ps, ha, rk⟩ := s8.own D _ hu
        obtain ⟨s9, k9⟩ := s8.set (b' := .k (storeK kvs key w)) (o := .dK (putK ps key u)) hu ⟨_, upd_same, rpK_store r8 rk⟩
        exact ⟨ps, key, ev, ha, by rw [rpK_length rk]; exact hz, F7, _, ((kd.trans k7).trans k8).trans k9, s9, inv2⟩
      | false =>
        rw [if_neg Bool.false_ne_true]
        exact ⟨F5, U5, kd, s6, qf rfl⟩
    · obtain rfl : i = n := by omega
      exact .inl ⟨wk.stop H2 sub, k (.ref D) (.r D) F2 V H2 ((k1.trans k2).trans k3) s3 rfl (hd V inv)⟩
end
def rSortedDS : List V → Hp → VK → Prop := fun xs H Q => ∃ (a : Addr) (kvs : List (Key × V)) (ks : List Str), xs = [.ref a] ∧ Rd H a (.dK kvs) ∧ kvs.map (·.1) = ks.map Sum.inr ∧ ks.length < 64 ∧
    ∀ ys p, ys.Perm ks → sortedS ys = true → H p = none → Q (.ref p) (upd H p (.lst (ys.map V.str)))
section
variable {X : Cx}
theorem bSortDS (hc : X.calm = true) : CallR X (.builtin "sorted") rSortedDS := call_sortedD hc
end
section
variable {K : PySem.W.Frag} {U : UU} {P : W → UU → Prop}
theorem rl_sortedDS {x : W} {kvs : List (Key × W)} {ks : List Str} (hd : DkIs K U x kvs) (hk : kvs.map (·.1) = ks.map Sum.inr) (hz : ks.length < 64) (q : ∀ ys : List Str, ys.Perm ks → sortedS ys = true → P (.l (ys.map .str)) U) : RLW K rSortedDS [x] U P := fun vs F H sp r Q k => by
  cases r with
  | cons rx rr =>
    cases rr
    obtain ⟨a, ps, rfl, h1, h2⟩ := hd.at sp rx
    refine ⟨a, ps, ks, rfl, .inl h1, (rpK_keys h2).trans hk, hz, fun ys p pm so hp => ?_⟩
    obtain ⟨s2, k2⟩ := sp.fix (o := .lst (ys.map V.str)) hp
    exact k _ (.l (ys.map .str)) _ _ _ k2 s2 (.lst (SqL.of upd_same) (rpAll_strs _)) (q ys pm so)
theorem rl_sortedStr {xs : List Str} (hz : xs.length < 64) (q : ∀ ys : List Str, ys.Perm xs → sortedS ys = true → P (.l (ys.map .str)) U) : RLW K (rSortedS K) [.l (xs.map .str)] U P := fun vs F H sp r Q k => by
  cases r with
  | cons rx rr =>
    cases rr
    cases rx with
    | lst hq ra =>
      obtain rfl := dp_strV ra
      refine ⟨_, xs, rfl, sp.sub.seq hq, hz, fun ys p pm so hp => ?_⟩
      obtain ⟨s2, k2⟩ := sp.fix (o := .lst (ys.map V.str)) hp
      exact k _ (.l (ys.map .str)) _ _ _ k2 s2 (.lst (SqL.of upd_same) (rpAll_strs _)) (q ys pm so)
end
/-! ### the order of texts -/
abbrev slt (a b : Str) : Prop := a.cps.toList < b.cps.toList
theorem slt_asymm {a b : Str} (h : slt a b) (g : slt b a) : False := List.lt_irrefl _ (List.lt_trans h g)
theorem pw_ext {α : Type} {R : α → α → Prop} (as : ∀ a b, R a b → R b a → False) : ∀ {xs ys : List α}, xs.Pairwise R → ys.Pairwise R → (∀ k, k ∈ xs ↔ k ∈ ys) → xs = ys
  | [], [], _, _, _ => rfl
  | [], y :: ys, _, _, h => absurd ((h y).mpr (List.mem_cons_self ..)) (by simp)
  | x :: xs, [], _, _, h => absurd ((h x).mp (List.mem_cons_self ..)) (by simp)
  | x :: xs, y :: ys, a, b, h => by
    obtain ⟨a1, a2⟩ := List.pairwise_cons.mp a
    obtain ⟨b1, b2⟩ := List.pairwise_cons.mp b
    have e : x = y := by
      rcases List.mem_cons.mp ((h x).mp (List.mem_cons_self ..)) with z | z
      · exact z
      · rcases List.mem_cons.mp ((h y).mpr (List.mem_cons_self ..)) with z2 | z2
        · exact z2.symm
        · exact (as _ _ (b1 x z) (a1 y z2)).elim
    subst e
    rw [pw_ext as a2 b2 fun k => ?_]
    constructor
    · intro hk
      rcases List.mem_cons.mp ((h k).mp (List.mem_cons_of_mem _ hk)) with z | z
      · subst z; exact (as _ _ (a1 _ hk) (a1 _ hk)).elim
      · exact z
    · intro hk
      rcases List.mem_cons.mp ((h k).mpr (List.mem_cons_of_mem _ hk)) with z | z
      · subst z; exact (as _ _ (b1 _ hk) (b1 _ hk)).elim
      · exact z
theorem str_ext {a b : Str} (h : a.cps.toList = b.cps.toList) : a = b := by
  obtain ⟨x⟩ := a
  obtain ⟨y⟩ := b
  have e : x = y := Array.toList_inj.mp h
  rw [e]
theorem sle_of {x p : Str} (h : ltCps x.cps.toList p.cps.toList = false) : ¬ slt x p := by
  rw [ltCps_eq] at h
  exact of_decide_eq_false h
theorem sle_trans {a b c : Str} (h : ¬ slt b a) (g : ¬ slt c b) : ¬ slt c a := fun z => by
  have h' : a.cps.toList ≤ b.cps.toList := h
  have g' : b.cps.toList ≤ c.cps.toList := g
  exact (List.le_trans h' g') z
theorem rising_pw : ∀ {r : List Str} {p : Str}, risingS p r = true → (∀ y ∈ r, ¬ slt y p) ∧ r.Pairwise fun a b => ¬ slt b a
  | [], _, _ => ⟨by simp, .nil⟩
  | x :: r, p, h => by
    simp only [risingS, Bool.and_eq_true, Bool.not_eq_true'] at h
    obtain ⟨h1, h2⟩ := h
    obtain ⟨a, b⟩ := rising_pw h2
    have h3 := sle_of h1
    refine ⟨fun y hy => ?_, List.pairwise_cons.mpr ⟨a, b⟩⟩
    rcases List.mem_cons.mp hy with rfl | hy
    · exact h3
    · exact sle_trans h3 (a y hy)
theorem sorted_pw {ys : List Str} (h : sortedS ys = true) (nd : ys.Nodup) : ys.Pairwise slt := by
  have p : ys.Pairwise fun a b => ¬ slt b a := by
    cases ys with
    | nil => exact .nil
    | cons x r =>
      obtain ⟨a, b⟩ := rising_pw (p := x) (r := r) h
      exact List.pairwise_cons.mpr ⟨a, b⟩
  refine (p.and nd).imp fun {a b} ⟨h1, h2⟩ => ?_
  have h1' : a.cps.toList ≤ b.cps.toList := h1
  exact Classical.byContradiction fun z => h2 (str_ext (List.le_antisymm h1' z))
theorem sorted_ext {xs ys : List Str} (a : sortedS xs = true) (na : xs.Nodup) (b : sortedS ys = true) (nb : ys.Nodup) (h : ∀ k, k ∈ xs ↔ k ∈ ys) : xs = ys :=
  pw_ext (fun _ _ => slt_asymm) (sorted_pw a na) (sorted_pw b nb) h
end Tv
namespace Tv
open PySem PySem.Spec PyProof.Rows L2 RZ StX
section
variable {K : PySem.W.Frag} {U : UU} {P : W → UU → Prop}
/-- list(t), t a tuple, to be changed -/
theorem rl_listMT {xs : List PyData} (hz : xs.length ≤ sizeLine) (q : ∀ a, U a = none → P (.r a) (put U a (xs.map W.d))) : RLW K (rLstO K) [.d (.tuple xs)] U P := fun vs F H sp r Q k => by
  cases r with
  | cons a r =>
    cases r
    cases a with
    | tup hq ra =>
      refine ⟨_, _, rfl, .inr (sqt_mono sp.sub hq), fun p hp => ?_⟩
      obtain ⟨s2, k2⟩ := sp.new (ws := xs.map W.d) hp (by rw [dpAll_len ra]; exact hz) (dp_rpAll ra)
      exact k _ (.r p) _ _ _ k2 s2 rfl (q p (sp.free hp).2)
end
end Tv
namespace Tv
open PySem PySem.Spec PyProof.Rows L2 RZ StX
section
variable {X : Cx}
/-- y = {k: v for ..}: the dict is handed over within the comprehension -/
theorem ps_setDc {i : Nat} {y : Str} {py : Pos} {kx vx tg iter : Expr} {ifs : List Expr} {scope : Scope} {own : List (Str × Nat)} {pos spos : Pos} {wi : TI} {g : TG} {tt : TT} {tk tv : TE} (hc : X.calm = true) (hN : X.N.Nodup) (hy : X.N[i]? = some y) (hyl : X.env.scope.names.lookup y = some .local)
    (sw : swapsWith (.DictComp kx vx [⟨tg, iter, ifs, 0⟩] scope pos) (some (.Name y py)) spos.line X.env = pure true) (hi : PI X tg iter wi) (ok : BlkOk X.N X.env.scope scope own)
    (hg : ∀ (s : Shared) (H : Hp) (C : Addr) (cl : List (Str × Addr)) (fp : List Addr), PG (X.blk s H scope (compEnvC scope cl C X.env) fp) tg g) (ht : ∀ (s : Shared) (H : Hp) (C : Addr) (cl : List (Str × Addr)) (fp : List Addr), PTs (X.blk s H scope (compEnvC scope cl C X.env) fp) ifs tt) (hk : ∀ (s : Shared) (H : Hp) (C : Addr) (cl : List (Str × Addr)) (fp : List Addr), PE (X.blk s H scope (compEnvC scope cl C X.env) fp) kx tk)
    (he : ∀ (s : Shared) (H : Hp) (C : Addr) (cl : List (Str × Addr)) (fp : List Addr), PE (X.blk s H scope (compEnvC scope cl C X.env) fp) vx tv) (hs : ∀ x, foldedSetIterable iter X.env x = pure x := by intro _; rfl) :
    PS X (.Assign [.Name y py] (.DictComp kx vx [⟨tg, iter, ifs, 0⟩] scope pos) spos) (tAsg (tDc wi g tt tk tv (own.map (·.2))) (gName i)) := ⟨fun pins s σ H D I h => by
  rw [exec_Assign_Name_used _ _ _ _ sw]
  refine wpAny_bind (wpAny_standAt (wpAny_bind ?_))
  show wpAny _ X.A (comprehension (.DictComp kx vx [⟨tg, iter, ifs, 0⟩] scope pos) scope X.env (firstIterPos [⟨tg, iter, ifs, 0⟩] pos) newDict false (eval iter X.env) (some (assign (.Name y py) X.env)) >>= fun _ => _) _ _ s
  have h' : tDc wi g tt tk tv (own.map (·.2)) σ H (fun x H1 => gName i x σ H1 D.nx) := h
  refine wpAny_bind (thn (dc_core (Qf := fun _ z => SP X pins D .next z) hc hN I hi ok hg ht hk he hs h' fun L C z m H' J q hn f => ?_) fun _ z hq => wpAny_pure (wpAny_pure hq))
  show wpAny _ _ (assign (.Name y py) X.env (.ref L)) _ _ _
  obtain ⟨f0, f1, f2, f3, f4, f5⟩ := f
  refine wpAny_assign_Name (store_ok2 (v := V.ref L) J hN hy (.inl hyl) rfl (fun z2 J2 ⟨a, sb, ha⟩ => ⟨m, hn.sameBut sb (ha.elim (fun z => z ▸ f1) fun z e => f4 y a z e.symm), fun h3 sb3 => ⟨_, H', J2.turned (t' := z2.toks) (fun b o hb e => (sb3.2 b hb).trans e) f0 f1 f3 f4 f5, q⟩⟩) (.inr hyl))⟩
theorem sw_trueD {kx vx : Expr} {gs : List Comprehension} {scope : Scope} {pos py : Pos} {y : Str} {l : Nat} {env : Env} (hk : env.scope.kind = .function) (hy : env.scope.names.lookup y = some .local) (hl : (py.line == pos.line) = true)
    (ha : (scope.names.any fun (n, k) => n == y && (k == .local || k == .cell)) = false) : swapsWith (.DictComp kx vx gs scope pos) (some (.Name y py)) l env = pure true := by
  have e1 : env.kindOf y = some .local := hy
  have e2 : env.blockKind = .function := by rw [Env.blockKind, hk]; rfl
  rw [swapsWith]; simp only [e2, e1, ha, Expr.pos, hl]; rfl
end
end Tv

namespace Tv
open PySem PySem.Spec PyProof.Rows L2 RZ StX
section
variable {K : PySem.W.Frag} {ρ : Rho} {U : UU} {te tl : TE} {wi : TI} {g : TG} {tt : TT} {vs : List Nat} {P : W → UU → Prop}
/-- a list that was to change is data from here on -/
theorem ev_frz (h : EV K te ρ U fun w V => ∃ p xs, w = .r p ∧ V p = some (.l (xs.map W.d)) ∧ P (.l xs) (cut V p)) : EV K te ρ U P := fun σ F H sl sp Q k =>
  h σ F H sl sp Q fun v w F2 U2 H2 k2 s2 r2 ⟨p, xs, ew, hp, q⟩ => by
    subst ew
    obtain rfl : v = .ref p := r2
    obtain ⟨F3, s3, k3, d3⟩ := s2.freeze hp
    exact k (.ref p) (.l xs) F3 _ H2 (k2.trans k3) s3 d3 q
/-- [e for x in xs], of any things; the new list stands in U -/
theorem ev_lcD (hg : Own g vs) (h : IW K wi ρ U fun n item U1 => ∀ D, U1 D = none → ∃ Iv : Nat → UU → Prop, Iv 0 (put U1 D (.l [])) ∧
      (∀ i V, i < n → Iv i V → GW K g (.d (item i)) (wipeR ρ vs) V fun ρ2 U2 => ET K tt ρ2 U2 fun b U3 =>
        (b = true → EV K te ρ2 U3 fun w U4 => ∃ acc, U4 D = some (.l acc) ∧ acc.length < sizeLine ∧ Iv (i + 1) (put U4 D (.l (acc ++ [w])))) ∧ (b = false → Iv (i + 1) U3)) ∧
      ∀ V, Iv n V → P (.r D) V) : EV K (tLc wi g tt te vs) ρ U P := fun σ F H sl sp Q k =>
  h σ F H sl sp _ fun J F1 U1 H1 n item k1 s1 wk hD => fun D hDn => by
    obtain ⟨Iv, h0, hs, hd⟩ := hD D (s1.free hDn).2
    obtain ⟨s2, k2⟩ := s1.new (vs := []) (ws := []) hDn (Nat.zero_le _) .nil
    refine ⟨fun i m H2 => m = n - i ∧ i ≤ n ∧ ∃ F2 V, Kp F1 (put U1 D (.l [])) (upd H1 D (.lst [])) F2 V H2 ∧ Sep K F2 V H2 ∧ Iv i V, ⟨n, by simp, Nat.zero_le _, F1, _, .refl, s2, h0⟩, ?_⟩
    rintro i m H2 ⟨rfl, hi, F2, V, k3, s3, inv⟩
    have sub : Same F1 H2 := k3.sub.trans s3.sub
    by_cases hlt : i < n
    · refine .inr ⟨wk.go i H2 hlt sub, fun H' => ∃ F' V', Kp F1 (put U1 D (.l [])) (upd H1 D (.lst [])) F' V' H' ∧ Sep K F' V' H' ∧ Iv (i + 1) V', fun H' ⟨F', V', a, b, c⟩ => ⟨n - (i + 1), by omega, rfl, hlt, F', V', a, b, c⟩, fun x H3 y => ?_⟩
      have own : ∀ R : L2.St → Hp → Prop, g x (wipe σ vs) H3 R → g x (wipe σ vs) H3 fun σ2 H2 => wipe σ2 vs = wipe σ vs ∧ R σ2 H2 := fun R q => by
        have z := hg.own x (wipe σ vs) H3 R q
        rwa [wipe_idem] at z
      obtain ⟨F3, k4, s4, d4⟩ := wk.yld i F2 V H2 x H3 hlt k3.sub s3 y
      refine own _ (hs i V hlt inv (wipe σ vs) F3 H3 x ((sl_wipe (sl.mono k1.sub) vs).mono (k3.sub.trans k4.sub)) s4 d4 _ fun σ4 F4 H4 ρ4 U4 k5 sl4 s5 q => ?_)
      refine q σ4 F4 H4 sl4 s5 _ fun b F5 U5 H5 k6 s6 ⟨qt, qf⟩ => ?_
      have kd := ((k3.trans k4).trans k5).trans k6
      cases b with
      | true =>
        rw [if_pos rfl]
        refine qt rfl σ4 F5 H5 (sl4.mono k6.sub) s6 _ fun v w F6 U6 H6 k7 s7 r7 ⟨acc, hu, hz, inv2⟩ => ?_
        obtain ⟨fD, us, ha, _, ru⟩ := s7.own D _ hu
        obtain ⟨s8, k8⟩ := s7.write (vs := us ++ [v]) (ws := acc ++ [w]) hu (by rw [List.length_append, rpAll_len ru]; exact hz) (rpAll_app ru (.cons r7 .nil))
        exact ⟨us, ha, by rw [rpAll_len ru]; exact hz, F6, _, (kd.trans k7).trans k8, s8, inv2⟩
      | false =>
        rw [if_neg Bool.false_ne_true]
        exact ⟨F5, U5, kd, s6, qf rfl⟩
    · obtain rfl : i = n := by omega
      exact .inl ⟨wk.stop H2 sub, k (.ref D) (.r D) F2 V H2 ((k1.trans k2).trans k3) s3 rfl (hd V inv)⟩
/-- the same over a list that may change, of any things -/
theorem ev_lcMM (hg : Own g vs) (h : EV K tl ρ U fun x U1 => ∃ p ws, x = .r p ∧ U1 p = some (.l ws) ∧ ∀ D, U1 D = none → ∃ Iv : Nat → UU → Prop, Iv 0 (put U1 D (.l [])) ∧ (∀ i V, Iv i V → V p = some (.l ws)) ∧
      (∀ i V w, ws[i]? = some w → Iv i V → GW K g w (wipeR ρ vs) V fun ρ2 U2 => ET K tt ρ2 U2 fun b U3 =>
        (b = true → EV K te ρ2 U3 fun w U4 => ∃ acc, U4 D = some (.l acc) ∧ acc.length < sizeLine ∧ Iv (i + 1) (put U4 D (.l (acc ++ [w])))) ∧ (b = false → Iv (i + 1) U3)) ∧
      ∀ V, Iv ws.length V → P (.r D) V) : EV K (tLc (iList K tl) g tt te vs) ρ U P := fun σ F H sl sp Q k =>
  h σ F H sl sp _ fun v x F1 U1 H1 k1 s1 r1 ⟨p, ws, ex, hp0, hD⟩ => by
    subst ex
    obtain rfl : v = .ref p := r1
    obtain ⟨_, zs0, a0, _, _⟩ := s1.own p _ hp0
    refine ⟨p, rfl, ⟨zs0, SqL.of a0⟩, fun D hDn => ?_⟩
    obtain ⟨Iv, h0, hp, hs, hd⟩ := hD D (s1.free hDn).2
    obtain ⟨s2, k2⟩ := s1.new (vs := []) (ws := []) hDn (Nat.zero_le _) .nil
    refine ⟨fun i m H2 => m = ws.length - i ∧ i ≤ ws.length ∧ ∃ F2 V, Kp F1 (put U1 D (.l [])) (upd H1 D (.lst [])) F2 V H2 ∧ Sep K F2 V H2 ∧ Iv i V, ⟨ws.length, by simp, Nat.zero_le _, F1, _, .refl, s2, h0⟩, ?_⟩
    rintro i m H2 ⟨rfl, hi, F2, V, k3, s3, inv⟩
    obtain ⟨_, zs, a, _, rz⟩ := s3.own p _ (hp i V inv)
    have hl := rpAll_len rz
    by_cases hlt : i < ws.length
    · have hv : i < zs.length := by omega
      refine .inr ⟨⟨zs, zs[i], SqL.of a, by simp [hv]⟩, fun H' => ∃ F' V', Kp F1 (put U1 D (.l [])) (upd H1 D (.lst [])) F' V' H' ∧ Sep K F' V' H' ∧ Iv (i + 1) V', fun H' ⟨F', V', a, b, c⟩ => ⟨ws.length - (i + 1), by omega, rfl, hlt, F', V', a, b, c⟩, fun x H3 y => ?_⟩
      obtain ⟨rfl, hx⟩ := y
      have hw : ws[i]? = some ws[i] := by simp [hlt]
      obtain ⟨v', e1, d4⟩ := rpAll_get rz hw
      have e3 := hx zs (SqL.of a)
      rw [e1] at e3
      obtain rfl := Option.some.inj e3
      have own : ∀ R : L2.St → Hp → Prop, g v' (wipe σ vs) H3 R → g v' (wipe σ vs) H3 fun σ2 H2 => wipe σ2 vs = wipe σ vs ∧ R σ2 H2 := fun R q => by
        have z := hg.own v' (wipe σ vs) H3 R q
        rwa [wipe_idem] at z
      refine own _ (hs i V _ hw inv (wipe σ vs) F2 H3 v' ((sl_wipe (sl.mono k1.sub) vs).mono k3.sub) s3 d4 _ fun σ4 F4 H4 ρ4 U4 k5 sl4 s5 q => ?_)
      refine q σ4 F4 H4 sl4 s5 _ fun b F5 U5 H5 k6 s6 ⟨qt, qf⟩ => ?_
      have kd := (k3.trans k5).trans k6
      cases b with
      | true =>
        rw [if_pos rfl]
        refine qt rfl σ4 F5 H5 (sl4.mono k6.sub) s6 _ fun v w F6 U6 H6 k7 s7 r7 ⟨acc, hu, hz, inv2⟩ => ?_
        obtain ⟨fD, us, ha, _, ru⟩ := s7.own D _ hu
        obtain ⟨s8, k8⟩ := s7.write (vs := us ++ [v]) (ws := acc ++ [w]) hu (by rw [List.length_append, rpAll_len ru]; exact hz) (rpAll_app ru (.cons r7 .nil))
        exact ⟨us, ha, by rw [rpAll_len ru]; exact hz, F6, _, (kd.trans k7).trans k8, s8, inv2⟩
      | false =>
        rw [if_neg Bool.false_ne_true]
        exact ⟨F5, U5, kd, s6, qf rfl⟩
    · obtain rfl : i = ws.length := by omega
      exact .inl ⟨⟨zs, SqL.of a, by omega⟩, k (.ref D) (.r D) F2 V H2 ((k1.trans k2).trans k3) s3 rfl (hd V inv)⟩
end
end Tv

namespace Tv
open PySem PySem.Spec PyProof.Rows L2 RZ StX

/-! ### own == and != and len of an instance -/
section
variable {X : Cx} {CT : CXT} {k : Nat} {f C : Addr} {fd : FuncData} {ps : List Str} {sp : Sp} {E : XK}
/-- what an instance may be held against -/
def Beside (K : PySem.W.Frag) (C : Addr) (H : Hp) (y : V) : Prop := (∃ b dy gs, y = .ref b ∧ H b = some (.ins C dy gs)) ∨ (∃ b ys, y = .ref b ∧ (SqL K H b ys ∨ SqT K H b ys)) ∨ y = .non ∨ (∃ z, y = .str z) ∨ (∃ i, y = .int i) ∨ ∃ b, y = .bl b
theorem sub_ty {K : PySem.W.Frag} {C : Addr} {T : String} {l : List String} (e : fastBuiltinMro T = some (l.map Value.type)) : PySem.W.subIn K (.type T) (.ref C) = some false := by
  show (fastBuiltinMro T).map (·.contains (.ref C)) = some false
  rw [e]
  simp
theorem nf_ty {K : PySem.W.Frag} {C : Addr} {T : String} {l : List String} (e : fastBuiltinMro T = some (l.map Value.type)) : PySem.W.notFirst K C (.type T) = true := by
  rw [PySem.W.notFirst, sub_ty e]
  simp
theorem ty_ref {M : Model} {h : Heap} {b : Addr} {o : Obj} {T : Value} (e : h.get? b = some o) (hc : o.cls = T) : PySem.W.Looks M h (typeOf (.ref b)) T := hc ▸ (PySem.W.Looks.ld e).andThen .now
theorem Beside.looks {pins : List (Addr × Obj)} {σ : L2.St} {H : Hp} {s : Shared} {y : V} {u : Value} (I : Inv X pins σ H s) (r : RelV y u) (h : Beside X.K C H y) :
    ∃ tb, PySem.W.Looks (model X.prog X.w) s.heap (typeOf u) tb ∧ PySem.W.notFirst X.K C tb = true := by
  rcases h with ⟨b, dy, gs, rfl, hb⟩ | ⟨b, ys, rfl, hb⟩ | rfl | ⟨z, rfl⟩ | ⟨i, rfl⟩ | ⟨b, rfl⟩
  · obtain rfl : u = Value.ref b := r
    obtain ⟨mB, J, _⟩ := ins_get I.hok hb
    obtain ⟨od, J, _⟩ := J.look
    exact ⟨_, J.type, by simp [PySem.W.notFirst]⟩
  · rcases hb with hb | hb
    · obtain ⟨its, _, ⟨o, n, e, hc, _⟩, _⟩ := I.list hb
      obtain rfl : u = Value.ref b := r
      exact ⟨.type "list", ty_ref e hc, nf_ty (l := ["list", "object"]) (by decide +kernel)⟩
    · obtain ⟨its, _, ⟨o, e, hc, _⟩, _⟩ := I.tuple hb
      obtain rfl : u = Value.ref b := r
      exact ⟨.type "tuple", ty_ref e hc, nf_ty (l := ["tuple", "object"]) (by decide +kernel)⟩
  · obtain rfl : u = Value.none := r
    exact ⟨.type "NoneType", .now, nf_ty (l := ["NoneType", "object"]) (by decide +kernel)⟩
  · obtain ⟨t, rfl⟩ : ∃ t, u = Value.str z t := r
    exact ⟨.type "str", .now, nf_ty (l := ["str", "object"]) (by decide +kernel)⟩
  · obtain ⟨t, rfl⟩ : ∃ t, u = Value.int i t := r
    exact ⟨.type "int", .now, nf_ty (l := ["int", "object"]) (by decide +kernel)⟩
  · obtain rfl : u = Value.bool b := r
    exact ⟨.type "bool", .now, nf_ty (l := ["bool", "int", "object"]) (by decide +kernel)⟩
theorem run_eq {A : Around} {pins : List (Addr × Obj)} {σ : L2.St} {H : Hp} {s : Shared} {R : VK} (hA : A.frames = X.A.frames) (hf : PySem.W.isFn X.K (.ref f) = true)
    (G : FnG X.prog X.w X.K X.mg X.base CT k f fd ps sp) (hr : Room k A) (gd : A.guards = some []) (hb : Binds X.K fd ps []) (hx : Passes CT X E) (I : Inv X pins σ H s) {vs : List V} {us : List Value} (rv : Vals vs us)
    (q : sp vs H R E) : wpAny (model X.prog X.w) A (call (.ref f) us) (EP X pins σ R) X.xe s := by
  have hl : (us ++ []).length = ps.length := by
    rw [List.append_nil, ← rv.length, G.len _ _ _ _ q]
  have b := hb s us I.kIn hl
  rw [List.append_nil] at b
  have e0 : Env0 X.prog X.w X.K X.mg X.base A X.stack s H := by
    have e := I.env0
    exact ⟨by rw [hA]; exact e.frames, e.mod, e.bs, e.bsz, e.funs, e.frf, e.hok, e.bare⟩
  refine wpAny_call (codeAny_mono (G.run hr gd e0 b rv q) fun r s' z => ?_)
  rcases r with err | fl
  · exact hx pins σ _ _ err s' I z
  · cases fl
    case ret u => exact I.after z
    all_goals exact z.elim
/-- o == y by the own __eq__ -/
def rEqO (K : PySem.W.Frag) (C : Addr) (sp : Sp) (E : XK) (neg : Bool) : R2 := fun x y H Q => ∃ a dx fs, x = .ref a ∧ H a = some (.ins C dx fs) ∧ Beside K C H y ∧ sp [x, y] H (fun v H' => ∃ b, v = .bl b ∧ Q (.bl (if neg then !b else b)) H') E
theorem op_eqO (hs : PySem.W.findIn X.K (.ref C) "__eq__" = some (some (.ref f))) (hf : PySem.W.isFn X.K (.ref f) = true) (G : FnG X.prog X.w X.K X.mg X.base CT k f fd ps sp) (hr : Room k X.A) (gd : X.A.guards = some []) (hb : Binds X.K fd ps []) (hx : Passes CT X E) :
    OpR X (compareOp .Eq) (rEqO X.K C sp E false) := by
  intro pins s σ H x y v u Q I rx ry h
  obtain ⟨a, dx, fs, rfl, ha, hy, q⟩ := h
  obtain rfl : v = Value.ref a := rx
  obtain ⟨mA, J, _⟩ := ins_get I.hok ha
  obtain ⟨od, J, _⟩ := J.look
  obtain ⟨m, hF⟩ := I.fr
  obtain ⟨tb, lk, nf⟩ := hy.looks I ry
  show wpAny (model X.prog X.w) X.A (richCompare .Eq (.ref a) u) (EP X pins σ Q) X.xe s
  refine PySem.W.cmp_K (op := .Eq) hr.units0 hF I.ok.mod.kin J lk nf hs hf (wpAny_mono (run_eq (vs := [.ref a, y]) (us := [.ref a, u]) rfl hf G hr gd hb hx I (.cons (show RelV (.ref a) (.ref a) from rfl) (.cons ry .nil)) q) (fun r s' z => ?_) fun _ _ z => z)
  obtain ⟨v, H', I', rv, b, ev, q'⟩ := z
  subst ev
  obtain rfl : r = Value.bool b := rv
  exact ⟨.bl _, H', I', rfl, q'⟩
theorem ifBound_objNe {M : Model} {A : Around} {E : Value → Shared → Prop} {s : Shared} {K : PySem.W.Frag} {x : Addr} {ox : Obj} {od : Option Obj} {args : List Value} {Q : Option Value → Shared → Prop} (X : K.In s.heap) (I : PySem.W.InstAt s.heap x ox C od) (hs : PySem.W.findIn K (.ref C) "__ne__" = some (some (.builtin "object.__ne__")))
    (h : wpAny M A (call (.builtin "object.__ne__") (.ref x :: args)) (fun v => Q (some v)) E s) : wpAny M A (callSpecialIfBound? (.ref x) "__ne__" args) Q E s := by
  simp only [callSpecialIfBound?, bindSpecialIfBound?]
  refine wpAny_holding (wpAny_bind (wpAny_bind (wpAny_bind (I.type.here ((PySem.W.looks_findIn X hs).here ?_)))))
  refine wpAny_bind (wpAny_askSetting (wpAny_ite ?_))
  have fin : wpAny M A (call (.builtin "object.__ne__") ([.ref x] ++ args) >>= fun v => pure (some v)) Q E s := wpAny_bind (wpAny_mono h (fun v s' h' => wpAny_pure h') fun _ _ h' => h')
  split
  · exact wpAny_bind (wpAny_of_eq (F.cmp_object.ne.bind _) (wpAny_pure (by exact fin)))
  · exact wpAny_tryCatch (wpAny_bind (wpAny_of_eq (F.cmp_object.ne.bind _) (wpAny_pure (by exact fin))))
theorem op_neO (hs : PySem.W.findIn X.K (.ref C) "__eq__" = some (some (.ref f))) (hn : PySem.W.findIn X.K (.ref C) "__ne__" = some (some (.builtin "object.__ne__"))) (hm : PySem.W.mroIn X.K C (.type "object") = some true) (hf : PySem.W.isFn X.K (.ref f) = true) (G : FnG X.prog X.w X.K X.mg X.base CT k f fd ps sp) (hr : Room (k + 1) X.A) (gd : X.A.guards = some []) (hb : Binds X.K fd ps []) (hx : Passes CT X E) :
    OpR X (compareOp .NotEq) (rEqO X.K C sp E true) := by
  intro pins s σ H x y v u Q I rx ry h
  obtain ⟨a, dx, fs, rfl, ha, hy, q⟩ := h
  obtain rfl : v = Value.ref a := rx
  obtain ⟨mA, J, _⟩ := ins_get I.hok ha
  obtain ⟨od, J, _⟩ := J.look
  obtain ⟨tb, lk, nf⟩ := hy.looks I ry
  have entry : wpAny (model X.prog X.w) X.A.in1 (Builtin.«object.__ne__» ⟨[.ref a, u], []⟩) (fun fin s' => ∃ b, fin = .done (.ret (.bool (!b))) ∧ EP X pins σ Q (.bool (!b)) s') X.xe s := by
    unfold Builtin.«object.__ne__»
    have c : wpAny (model X.prog X.w) X.A.in1 (call (.ref f) [.ref a, u]) (fun r s' => ∃ b, r = .bool b ∧ EP X pins σ Q (.bool (!b)) s') X.xe s := by
      refine wpAny_mono (run_eq (A := X.A.in1) (vs := [.ref a, y]) (us := [.ref a, u]) rfl hf G hr.in1 gd hb hx I (.cons (show RelV (.ref a) (.ref a) from rfl) (.cons ry .nil)) q) (fun r s' z => ?_) fun _ _ z => z
      obtain ⟨v, H', I', rv, b, ev, q'⟩ := z
      subst ev
      obtain rfl : r = Value.bool b := rv
      exact ⟨b, rfl, .bl _, H', I', rfl, q'⟩
    have hu : X.A.in1.units < cLine := hr.in1.units0
    obtain ⟨hp, g, d, t, os⟩ := s
    repeat (first | with_reducible refine wpAny_cRoomFor hu ?_ | with_reducible refine PySem.W.ifBound_K I.kIn J hs hf (wpAny_mono c (fun r s' z => ?_) fun _ _ z => z) | wp_step)
    obtain ⟨b, rfl, q'⟩ := z
    repeat wp_step
    exact ⟨b, rfl, q'⟩
  have one : wpAny (model X.prog X.w) X.A (tryCompare (.ref a) (cmpInfo .NotEq).2.1 u) (fun r s' => ∃ v, r = some v ∧ EP X pins σ Q v s') X.xe s := by
    unfold tryCompare
    refine wpAny_bind (ifBound_objNe I.kIn J hn (wpAny_call (codeAny_call_builtin F.cmp_object.ne.plain F.cmpEntry_ne (PySem.W.check_slot F.cmpKind_ne F.cmpSplit_ne (J.type.andThen (PySem.W.looks_mroIn I.kIn hm)) (F.cmpArgs_ne _ _) (wpAny_mono entry (fun r s' z => ?_) fun _ _ z => z)))))
    obtain ⟨b, rfl, q'⟩ := z
    exact wpAny_pure ⟨_, rfl, q'⟩
  show wpAny (model X.prog X.w) X.A (richCompare .NotEq (.ref a) u) (EP X pins σ Q) X.xe s
  unfold richCompare
  simp only [oneThing_ref]
  refine wpAny_holding (wpAny_bind (wpAny_cRoomFor hr.units0 ?_))
  refine wpAny_bind (J.type.here (wpAny_bind (lk.here ?_)))
  split
  · rename_i q
    have e : PySem.W.subIn X.K tb (.ref C) = some false := by
      rcases Bool.or_eq_true_iff.mp nf with e | e
      · rw [beq_iff_eq.mp e] at q; simp at q
      · exact beq_iff_eq.mp e
    refine wpAny_bind ((PySem.W.looks_subIn I.kIn e).here ?_)
    simp only [Bool.false_eq_true, if_false]
    refine wpAny_bind (wpAny_mono one (fun r s' z => ?_) fun _ _ e => e)
    obtain ⟨v, rfl, hq⟩ := z
    exact wpAny_pure hq
  · refine wpAny_bind (wpAny_pure ?_)
    simp only [Bool.false_eq_true, if_false]
    refine wpAny_bind (wpAny_mono one (fun r s' z => ?_) fun _ _ e => e)
    obtain ⟨v, rfl, hq⟩ := z
    exact wpAny_pure hq
/-- len of an instance by the own __len__ -/
def rLenO (C : Addr) (sp : Sp) (E : XK) : List V → Hp → VK → Prop := fun vs H Q => ∃ a dx fs, vs = [.ref a] ∧ H a = some (.ins C dx fs) ∧ sp [.ref a] H (fun v H' => ∃ n : Nat, v = .int n ∧ n < 2 ^ 63 ∧ Q (.int n) H') E
theorem b_lenO (hs : PySem.W.findIn X.K (.ref C) "__len__" = some (some (.ref f))) (hf : PySem.W.isFn X.K (.ref f) = true) (G : FnG X.prog X.w X.K X.mg X.base CT k f fd ps sp) (hr : Room (k + 1) X.A) (gd : X.A.guards = some []) (hb : Binds X.K fd ps []) (hx : Passes CT X E) :
    CallR X (.builtin "len") (rLenO C sp E) := by
  intro pins s σ H xs us Q I r h
  obtain ⟨a, dx, fs, rfl, ha, q⟩ := h
  obtain ⟨u, rfl, ru⟩ := vals1 r
  obtain rfl : u = Value.ref a := ru
  obtain ⟨mA, J, _⟩ := ins_get I.hok ha
  obtain ⟨od, J, _⟩ := J.look
  obtain ⟨m, hF⟩ := I.fr
  refine PySem.W.len_K hF I.ok.mod.kin J hs hf (wpAny_mono (run_eq (A := X.A.in1) (vs := [.ref a]) (us := [.ref a]) rfl hf G hr.in1 gd hb hx I (.cons (show RelV (.ref a) (.ref a) from rfl) .nil) q) (fun r s' z => ?_) fun _ _ z => z)
  obtain ⟨v, H', I', rv, n, ev, hn, q'⟩ := z
  subst ev
  obtain ⟨t, rfl⟩ : ∃ t, r = Value.int n t := rv
  exact ⟨⟨by omega, by omega⟩, .int n, H', I'.tok _, ⟨_, rfl⟩, q'⟩
end
/-- what is asked of a class with an own == -/
structure EqCls (K : PySem.W.Frag) (C : Addr) : Prop where
  c : Cls K C
  ha : PySem.W.findIn K (.ref C) "__class__" = some (some (.builtin "object.__class__"))
  hn : PySem.W.specialIn K (.builtin "object.__class__") "__get__" = some (some (.builtin "getset_descriptor.__get__"))
  ht : PySem.W.takesIn K (.builtin "object.__class__") = some true
  hm : PySem.W.mroIn K C (.type "object") = some true
  ne : PySem.W.findIn K (.ref C) "__ne__" = some (some (.builtin "object.__ne__"))
  k1 : PySem.W.kitOne K (.type "NoneType") (.ref C) = some false
  k2 : PySem.W.kitOne K (.type "bool") (.ref C) = some false
  k3 : PySem.W.kitOne K (.type "int") (.ref C) = some false
  k4 : PySem.W.kitOne K (.type "str") (.ref C) = some false
  k5 : PySem.W.kitOne K (.type "list") (.ref C) = some false
  k6 : PySem.W.kitOne K (.type "tuple") (.ref C) = some false
section
variable {X : Cx} {Pg : Program} {w : World} {K : PySem.W.Frag} {mg : Str → Option Value} {base : Heap} {C : Addr} {st : Stmt} {x nm qual : Str} {k j : Nat} {ps : List Str} {p : PT'}
theorem opEqO (M : MCal Pg w K mg base C st "__eq__" qual k ps p) (hr : Room j X.A) (gd : X.A.guards = some []) (hk : k ≤ j := by decide) (hX : Here X Pg w K mg base := by exact ⟨rfl, rfl, rfl, rfl, rfl⟩) : OpR X (compareOp .Eq) (rEqO K C (spW K p) E0 false) := by
  obtain ⟨rfl, rfl, rfl, rfl, rfl⟩ := hX
  obtain ⟨f, fd, a, b, b2, c2⟩ := M.ex
  exact op_eqO b b2 c2 (hr.mono hk) gd (a.binds M.bind) pass0
theorem opNeO (q : EqCls K C) (M : MCal Pg w K mg base C st "__eq__" qual k ps p) (hr : Room j X.A) (gd : X.A.guards = some []) (hk : k + 1 ≤ j := by decide) (hX : Here X Pg w K mg base := by exact ⟨rfl, rfl, rfl, rfl, rfl⟩) : OpR X (compareOp .NotEq) (rEqO K C (spW K p) E0 true) := by
  obtain ⟨rfl, rfl, rfl, rfl, rfl⟩ := hX
  obtain ⟨f, fd, a, b, b2, c2⟩ := M.ex
  exact op_neO b q.ne q.hm b2 c2 (hr.mono hk) gd (a.binds M.bind) pass0
theorem bLenO (M : MCal Pg w K mg base C st "__len__" qual k ps p) (hr : Room j X.A) (gd : X.A.guards = some []) (hk : k + 1 ≤ j := by decide) (hX : Here X Pg w K mg base := by exact ⟨rfl, rfl, rfl, rfl, rfl⟩) : CallR X (.builtin "len") (rLenO C (spW K p) E0) := by
  obtain ⟨rfl, rfl, rfl, rfl, rfl⟩ := hX
  obtain ⟨f, fd, a, b, b2, c2⟩ := M.ex
  exact b_lenO b b2 c2 (hr.mono hk) gd (a.binds M.bind) pass0
end
section
variable {K : PySem.W.Frag} {U : UU} {P : W → UU → Prop} {C : Addr} {fs gs : List (Str × W)} {p : PT'} {x y : W}
theorem dp_beside {F H : Hp} {d : PyData} {v : V} (s : Same F H) (h : Dp K F v d) : Beside K C H v := by
  cases h with
  | non => exact .inr (.inr (.inl rfl))
  | bl b => exact .inr (.inr (.inr (.inr (.inr ⟨_, rfl⟩))))
  | int i => exact .inr (.inr (.inr (.inr (.inl ⟨_, rfl⟩))))
  | str z => exact .inr (.inr (.inr (.inl ⟨_, rfl⟩)))
  | lst hq ra => exact .inr (.inl ⟨_, _, rfl, .inl (SqL.ext hq (fun a o e => s a o e))⟩)
  | tup hq ra => exact .inr (.inl ⟨_, _, rfl, .inr (sqt_mono s hq)⟩)
theorem r2_eqO {E0' : XK} {neg : Bool} (ho : ObIs K U x C fs) (hy : ObIs K U y C gs ∨ ∃ d, y = .d d) (h : p [x, y] U fun w U2 => ∃ b, w = .b b ∧ P (.b (if neg then !b else b)) U2) : R2W K (rEqO K C (spW K p) E0' neg) x y U P := fun v u F H sp rx ry Q k => by
  obtain ⟨a, dx, ps, rfl, h1, h2⟩ := ho.at sp rx
  have hb : Beside K C H u := by
    rcases hy with hy | ⟨d, rfl⟩
    · obtain ⟨a2, dx2, ps2, rfl, h12, h22⟩ := hy.at sp ry
      exact .inl ⟨_, _, _, rfl, h12⟩
    · exact dp_beside sp.sub ry
  refine ⟨a, dx, ps, rfl, h1, hb, [x, y], F, U, _, .cons rx (.cons ry .nil), sp, h, fun v w F2 U2 H2 k2 s2 r2 ⟨b, ew, q⟩ => ?_⟩
  subst ew
  cases r2
  exact ⟨b, rfl, k _ (.b _) F2 U2 H2 k2 s2 (Dp.bl _) q⟩
theorem rl_lenO {E0' : XK} (ho : ObIs K U x C fs) (h : p [x] U fun w U2 => ∃ n : Nat, w = .i n ∧ n < 2 ^ 63 ∧ P (.i n) U2) : RLW K (rLenO C (spW K p) E0') [x] U P := fun vs F H sp r Q k => by
  cases r with
  | cons rx r =>
    cases r
    obtain ⟨a, dx, ps, rfl, h1, h2⟩ := ho.at sp rx
    refine ⟨a, dx, ps, rfl, h1, [x], F, U, _, .cons rx .nil, sp, h, fun v w F2 U2 H2 k2 s2 r2 ⟨n, ew, hn, q⟩ => ?_⟩
    subst ew
    cases r2
    exact ⟨n, rfl, hn, k _ (.i _) F2 U2 H2 k2 s2 (Dp.int _) q⟩
/-- isinstance(x, C) of an instance -/
theorem rl_isO (e : EqCls K C) (ho : ObIs K U x C fs) (q : P (.b true) U) : RLW K (rIsi K) [x, .r C] U P := fun vs F H sp r Q k => by
  cases r with
  | cons rx r =>
    cases r with
    | cons rc r =>
      cases r
      obtain ⟨a, dx, ps, rfl, h1, h2⟩ := ho.at sp rx
      rename_i c
      obtain rfl : c = .ref C := rc
      exact ⟨.ref a, .ref C, .ref C, .ref C, true, rfl, .own C, .base (.ins h1 e.c e.ha e.hn e.ht e.hm), by simp [PySem.W.kitOne], k _ (.b true) F U H .refl sp (Dp.bl _) q⟩
/-- isinstance(x, C) of data -/
theorem rl_isOD {d : PyData} (e : EqCls K C) (q : P (.b false) U) : RLW K (rIsi K) [.d d, .r C] U P := fun vs F H sp r Q k => by
  cases r with
  | cons rx r =>
    cases r with
    | cons rc r =>
      cases r
      rename_i x c
      obtain rfl : c = .ref C := rc
      refine ⟨x, .ref C, _, .ref C, false, rfl, .own C, dp_ty d x (dp_mono sp.sub d x rx), ?_, k _ (.b false) F U H .refl sp (Dp.bl _) q⟩
      cases rx
      · exact e.k1
      · exact e.k2
      · exact e.k3
      · exact e.k4
      · exact e.k5
      · exact e.k6
end
end Tv

namespace Tv
open PySem PySem.Spec PyProof.Rows L2 RZ StX
section
variable {X : Cx}
/-- l.remove(x) over data, x there -/
def rRemD (K : PySem.W.Frag) : V → List V → Hp → VK → Prop := fun x xs H Q => ∃ (l : Addr) (vs : List V) (ds : List PyData) (y : V) (d : PyData) (j : Nat), x = .ref l ∧ xs = [y] ∧ H l = some (.lst vs) ∧ DpAll K H vs ds ∧ Dp K H y d ∧ PyData.plainAll ds = true ∧ d.plain = true ∧ d.depth ≤ 60 ∧ SeqAt.dataPlace ds d = some j ∧ Q .non (upd H l (.lst (vs.eraseIdx j)))
theorem mt_removeD (hu : X.A.units + 70 < cLine) : MtM X "list.remove" (rRemD X.K) := by
  intro pins s σ H x xs v us Q I rx rxs h
  obtain ⟨l, vs, ds, y, d, j, rfl, rfl, hH, hds, hd, p1, p2, p3, hj, q⟩ := h
  cases rx
  obtain ⟨u, rfl, ru⟩ := rxs.one
  obtain ⟨z, its, n, r, hl, e⟩ := I.lstM hH
  obtain ⟨as, ra⟩ := Dp.readsAll I ds _ _ hds r
  obtain ⟨bs, rb⟩ := Dp.reads I d _ _ hd ru
  have hjn : j < ds.length := by
    obtain ⟨h, _⟩ := List.findIdx?_eq_some_iff_findIdx_eq.mp hj
    exact h
  have hl2 := dpAll_len hds
  refine SeqAt.remove_list_data (vs := its.toArray) (j := j) ⟨_, e, rfl, n, rfl⟩ ra rb p1 p2 (by have := Nat.min_le_right (PyData.depthAll ds) d.depth; omega) hj (by rw [List.size_toArray]; omega) ?_
  have rr := r.eraseIdx j
  refine ⟨.non, _, I.lset (its' := its.eraseIdx j) (t' := s.toks) hH e ?_ rr ?_, rfl, q⟩
  · show its.toArray.eraseIdxIfInBounds j = (its.eraseIdx j).toArray
    rw [List.eraseIdxIfInBounds_toArray]
  · rw [List.length_eraseIdx]
    split <;> omega
end
theorem map_eraseW {α β : Type} (f : α → β) : ∀ (l : List α) (i : Nat), (l.map f).eraseIdx i = (l.eraseIdx i).map f
  | [], _ => rfl
  | _ :: _, 0 => rfl
  | x :: l, i + 1 => by
    show f x :: (l.map f).eraseIdx i = f x :: (l.eraseIdx i).map f
    rw [map_eraseW f l i]
section
variable {K : PySem.W.Frag} {U : UU} {P : W → UU → Prop}
theorem rm_removeD {p : Addr} {ds : List PyData} {d : PyData} {j : Nat} (hu : U p = some (.l (ds.map W.d))) (p1 : PyData.plainAll ds = true) (p2 : d.plain = true) (p3 : d.depth ≤ 60) (hj : SeqAt.dataPlace ds d = some j)
    (q : P (.d .none) (put U p (.l ((ds.eraseIdx j).map W.d)))) : RMW K (rRemD K) (.r p) [.d d] U P := fun v vs F H sp a r Q k => by
  cases r with
  | cons b r =>
    cases r
    obtain rfl : v = .ref p := a
    obtain ⟨us, h1, h2, h3⟩ := sp.dp hu
    obtain ⟨_, us', e, hz, ru⟩ := sp.own p _ hu
    obtain rfl : us = us' := by
      rw [h1] at e
      cases e
      rfl
    obtain ⟨s2, k2⟩ := sp.write (vs := us.eraseIdx j) (ws := (ds.map W.d).eraseIdx j) hu (by rw [List.length_eraseIdx]; split <;> omega) (rpAll_erase j ru)
    rw [map_eraseW] at s2 k2
    exact ⟨p, us, ds, _, d, j, rfl, rfl, h1, dpAll_mono sp.sub _ _ h2, dp_mono sp.sub d _ b, p1, p2, p3, hj, k _ (.d .none) F _ _ k2 s2 Dp.non q⟩
end
end Tv

namespace Tv
open PySem PySem.Spec PyProof.Rows L2 RZ StX
/-- C(k = e), where __init__ takes self and k -/
def tMake1K (C : Addr) (sp : Sp) (E : XK) (tk : TA) : TE := fun σ H Q => tk σ H fun zs H1 => ∃ z, zs = [z] ∧ ∀ x dx, H1 x = none → H1 dx = none → dx ≠ x → sp [.ref x, z] (upd (upd H1 dx (.own x)) x (.ins C dx [])) (fun v H2 => v = .non ∧ Q (.ref x) H2) E
section
variable {X : Cx} {CT : CXT} {k : Nat} {f C : Addr} {fd : FuncData} {ps : List Str} {sp : Sp} {E : XK} {x kn : Str} {p pos : Pos} {kws : List Keyword} {tk : TA}
theorem run_make1K {pins : List (Addr × Obj)} {σ : L2.St} {H : Hp} {s : Shared} {Q : VK} {u : Value} {z : V} (M : Mk X.K C f) (G : FnG X.prog X.w X.K X.mg X.base CT k f fd ps sp) (hr : Room (k + 1) X.A) (gd : X.A.guards = some [])
    (hb : ∀ (s : Shared) (a b : Value), BindsTo s fd ⟨[a], [(kn, b)]⟩ (ps.zip [a, b])) (hx : Passes CT X E) (I : Inv X pins σ H s) (r : RelV z u)
    (h : ∀ x dx, H x = none → H dx = none → dx ≠ x → sp [.ref x, z] (upd (upd H dx (.own x)) x (.ins C dx [])) (fun v H2 => v = .non ∧ Q (.ref x) H2) E) :
    wpAny (model X.prog X.w) X.A (call (.ref C) [] [(kn, u)]) (EP X pins σ Q) X.xe s := by
  have hq := h (s.heap.objs.size + 1) s.heap.objs.size (I.hok.fresh (Nat.le_succ _)) (I.hok.fresh (Nat.le_refl _)) (Nat.ne_of_lt (Nat.lt_succ_self _))
  have J := Inv.made (C := C) I
  have rv : Vals [V.ref (s.heap.objs.size + 1), z] [Value.ref (s.heap.objs.size + 1), u] := .cons rfl (.cons r .nil)
  refine wpAny_call (make_map (f := f) (vs := []) (kw := [(kn, u)]) I.kIn M.makes M.init (beq_iff_eq.mp M.fn) (codeAny_mono (G.run (hr.make C [] [(kn, u)]) (by exact gd) (J.env0.make C [] [(kn, u)]) (hb _ _ _) rv hq) fun r s' z => ?_))
  rcases r with err | fl
  · exact hx pins σ _ _ err s' J z
  · cases fl
    case ret u =>
      obtain ⟨v, H', J', rv', ev, q⟩ := J.after z
      subst ev
      exact ⟨rv', ⟨V.ref (s.heap.objs.size + 1), H', J', rfl, q⟩⟩
    all_goals exact z.elim
theorem pe_make1KG (M : Mk X.K C f) (G : FnG X.prog X.w X.K X.mg X.base CT k f fd ps sp) (hr : Room (k + 1) X.A) (gd : X.A.guards = some []) (hg : Gl X x) (hm : X.mg x = some (.ref C))
    (hb : ∀ (s : Shared) (a b : Value), BindsTo s fd ⟨[a], [(kn, b)]⟩ (ps.zip [a, b])) (hx : Passes CT X E) (hkw : PK X kws tk)
    (hall : (backToKw pos (keywordEach kws X.env)).all (·.1.isSome) = true) (hks : (backToKw pos (keywordEach kws X.env)).filterMap (·.1) = [kn]) (hdb : (x == ("__debug__" : Str)) = false)
    (hpl : ((backTo pos (starEach [] X.env)).any (·.1) || (backToKw pos (keywordEach kws X.env)).any (·.1.isNone)) = false) :
    PE X (.Call (.Name x p) [] kws pos) (tMake1K C sp E tk) := by
  refine ⟨fun pins s σ H Q I h => wpAny_Call_Name_kw (ld_glob I hg hm ?_ hdb)⟩
  refine PySem.W.callWith_KW0 (h₀ := X.base) I.ok.mod.kin M.kp hall (thn (hkw.run pos pins s σ H _ I h) fun ws s2 ⟨zs, H2, I2, rz, z, ez, q⟩ => ⟨I2.kIn, ?_⟩) hpl
  subst ez
  obtain ⟨u, rfl, ru⟩ := vals1 rz
  rw [hks]
  exact run_make1K M G hr gd hb hx I2 ru q
end
section
variable {X : Cx} {Pg : Program} {w : World} {K : PySem.W.Frag} {mg : Str → Option Value} {base : Heap} {C : Addr} {st : Stmt} {nm qual kn : Str} {k j : Nat} {ps : List Str} {p : PT'} {tk : TA} {pp pos : Pos} {kws : List Keyword}
theorem pe_mk1K (c : ClsAt K mg nm C) (M : MCal Pg w K mg base C st "__init__" qual k ps p) (hr : Room j X.A) (gd : X.A.guards = some []) (hg : Gl X nm)
    (hb : ∀ (kV doc pm : Value) (an : Option Addr) (cdv ct : Value) (a b : Value), bindArgs (PySem.W.fnOf "__init__" qual (defArgs st) (defBody st) (defScope st) .none kV doc pm an cdv ct) ⟨[a], [(kn, b)]⟩ = pure (ps.zip [a, b])) (hkw : PK X kws tk) (hk : k + 1 ≤ j := by decide)
    (hX : Here X Pg w K mg base := by exact ⟨rfl, rfl, rfl, rfl, rfl⟩) (hall : (backToKw pos (keywordEach kws X.env)).all (·.1.isSome) = true := by rfl) (hks : (backToKw pos (keywordEach kws X.env)).filterMap (·.1) = [kn] := by rfl) (hdb : (nm == ("__debug__" : Str)) = false := by decide)
    (hpl : ((backTo pos (starEach [] X.env)).any (·.1) || (backToKw pos (keywordEach kws X.env)).any (·.1.isNone)) = false := by rfl) :
    PE X (.Call (.Name nm pp) [] kws pos) (tMake1K C (spW K p) E0 tk) := by
  obtain ⟨rfl, rfl, rfl, rfl, rfl⟩ := hX
  obtain ⟨f, fd, a, b, b2, c2⟩ := M.ex
  refine pe_make1KG ⟨c.makes, b, b2, c.kp⟩ c2 (hr.mono hk) gd hg c.mg (fun s u v => ?_) pass0 hkw hall hks hdb hpl
  obtain ⟨oc, od, kV, doc, pm, an, cdv, ct, osl, rfl, lk, hcd⟩ := a.ex
  exact .of_eq (hb kV doc pm an cdv ct u v)
end
section
variable {K : PySem.W.Frag} {ρ : Rho} {U : UU} {P : W → UU → Prop} {tk : TA} {C : Addr}
theorem ev_make1K {p : PT'} {E0' : XK} (h : EA K tk ρ U fun ws U1 => ∃ w, ws = [w] ∧ ∀ x dx, U1 x = none → U1 dx = none → dx ≠ x → p [.r x, w] (put (put U1 dx (.w x)) x (.o C dx [])) fun w U2 => w = .d .none ∧ ∃ fs, U2 x = some (.o C dx fs) ∧ U2 dx = some (.w x) ∧ P (.ob K C fs) (cut (cut U2 x) dx)) : EV K (tMake1K C (spW K p) E0' tk) ρ U P := fun σ F H sl sp Q k =>
  h σ F H sl sp _ fun vs ws F1 U1 H1 k1 s1 r1 ⟨w0, e0, q⟩ => by
    subst e0
    cases r1 with
    | cons ra rr =>
      cases rr
      refine ⟨_, rfl, fun x dx hx hd ne => ?_⟩
      obtain ⟨s2, k2⟩ := s1.newO (C := C) hx hd ne
      refine ⟨[.r x, w0], F1, _, _, .cons rfl (.cons ra .nil), s2, q x dx (s1.free hx).2 (s1.free hd).2 ne, fun v w F3 U3 H3 k3 s3 r3 ⟨ew, fs, hu, hud, q3⟩ => ?_⟩
      subst ew
      cases r3
      obtain ⟨F4, s4, k4, r4⟩ := s3.freezeO hu hud ne
      exact ⟨rfl, k (.ref x) _ F4 _ H3 (((k1.trans k2).trans k3).trans k4) s4 r4 q3⟩
end
theorem kit_no {K : PySem.W.Frag} {C : Addr} {T : String} {l : List String} (h2 : PySem.W.isClsIn K C = true) (h3 : PySem.W.typeIn K (.ref C) = some (.type "type")) (e : fastBuiltinMro T = some (l.map Value.type)) : PySem.W.kitOne K (.type T) (.ref C) = some false := by
  have e2 : ((PySem.W.clsIn K C).isSome && PySem.W.typeIn K (.ref C) == some (.type "type")) = true := by
    have h2' : (PySem.W.clsIn K C).isSome = true := h2
    rw [h2', h3] <;> rfl
  have ne : ¬ ((Value.type T == Value.ref C) = true) := by
    intro z
    have := eq_of_beq z
    cases this
  unfold PySem.W.kitOne
  rw [if_neg ne]
  show (if ((PySem.W.clsIn K C).isSome && PySem.W.typeIn K (.ref C) == some (.type "type")) = true then PySem.W.subIn K (.type T) (.ref C) else none) = some false
  rw [if_pos e2]
  exact sub_ty e
theorem eq_mk {K : PySem.W.Frag} {C : Addr} (pg : PySem.W.plainGet K C Str.empty = true) (hd : PySem.W.hasDictIn K C = true) (po : PySem.W.plainOver K C = true) (sa : PySem.W.findIn K (.ref C) "__setattr__" = some (some (.builtin "object.__setattr__")))
    (ha : PySem.W.findIn K (.ref C) "__class__" = some (some (.builtin "object.__class__"))) (hn : PySem.W.specialIn K (.builtin "object.__class__") "__get__" = some (some (.builtin "getset_descriptor.__get__"))) (ht : PySem.W.takesIn K (.builtin "object.__class__") = some true)
    (hm : PySem.W.mroIn K C (.type "object") = some true) (ne : PySem.W.findIn K (.ref C) "__ne__" = some (some (.builtin "object.__ne__"))) (iC : PySem.W.isClsIn K C = true) (tC : PySem.W.typeIn K (.ref C) = some (.type "type")) : EqCls K C :=
  ⟨⟨pg, hd, po, sa⟩, ha, hn, ht, hm, ne, kit_no (l := ["NoneType", "object"]) iC tC (by decide +kernel), kit_no (l := ["bool", "int", "object"]) iC tC (by decide +kernel), kit_no (l := ["int", "object"]) iC tC (by decide +kernel), kit_no (l := ["str", "object"]) iC tC (by decide +kernel), kit_no (l := ["list", "object"]) iC tC (by decide +kernel), kit_no (l := ["tuple", "object"]) iC tC (by decide +kernel)⟩
end Tv

namespace Tv
open PySem PySem.Spec PyProof.Rows L2 RZ StX
/-! ### dicts whose keys are nested tuples, at the layer below -/
mutual
def keyOf : PyData → NestedKey
  | .none => .none
  | .bool b => .num (if b = true then 1 else 0)
  | .int i => .num i
  | .str x => .text x
  | .tuple xs => .tup (keysOf xs)
  | .list _ => .none
  | .dict _ => .none
def keysOf : List PyData → List NestedKey
  | [] => []
  | x :: xs => keyOf x :: keysOf xs
end
mutual
def isKey : PyData → Bool
  | .none => true
  | .bool _ => true
  | .int _ => true
  | .str _ => true
  | .tuple xs => areKeys xs
  | .list _ => false
  | .dict _ => false
def areKeys : List PyData → Bool
  | [] => true
  | x :: xs => isKey x && areKeys xs
end
section
variable {X : Cx} {pins : List (Addr × Obj)} {σ : L2.St} {H : Hp} {s : Shared}
mutual
theorem dp_nkey (I : Inv X pins σ H s) : ∀ (d : PyData) (v : V) (u : Value), Dp X.K H v d → RelV v u → isKey d = true → NestedIs s.heap (keyOf d) u
  | .none, _, _, h, r, _ => by
    cases h
    cases r
    exact .none
  | .bool b, _, _, h, r, _ => by
    cases h
    cases r
    exact .bool rfl
  | .int i, _, _, h, r, _ => by
    cases h
    obtain ⟨t, rfl⟩ := r
    exact .int i t
  | .str x, _, _, h, r, _ => by
    cases h
    obtain ⟨t, rfl⟩ := r
    exact .text x t
  | .tuple ds, _, _, h, r, k => by
    cases h with
    | tup hs ha =>
      cases r
      obtain ⟨its, rv, ⟨o, ho, hc, n, hd⟩, _⟩ := I.tuple hs
      have k' : areKeys ds = true := by rw [isKey] at k; exact k
      rw [keyOf]
      exact .tup ho hc hd (by simpa using dp_nkeys I ds _ its ha rv k')
  | .list _, _, _, _, _, k => by rw [isKey] at k; cases k
  | .dict _, _, _, _, _, k => by rw [isKey] at k; cases k
theorem dp_nkeys (I : Inv X pins σ H s) : ∀ (ds : List PyData) (vs : List V) (us : List Value), DpAll X.K H vs ds → Vals vs us → areKeys ds = true → NestedAll s.heap (keysOf ds) us
  | [], _, _, h, r, _ => by
    cases h
    cases r
    exact .nil
  | d :: ds, _, _, h, r, k => by
    rw [areKeys, Bool.and_eq_true] at k
    cases h with
    | cons h1 h2 =>
      cases r with
      | cons r1 r2 => exact .cons (dp_nkey I d _ _ h1 r1 k.1) (dp_nkeys I ds _ _ h2 r2 k.2)
end
end
/-- a dict with these keys, their tuples' places, and values -/
def qdO (P : Program) (w : World) (a : Addr) (xs : List (NestedKey × Addr × Value)) : HO :=
  .ext fun h => ∃ o es ep, h.get? a = some o ∧ o.ExactDict ∧ o.data = .dict es ep ∧ es.toList = xs.map (entryOfKey (nestedKind P w)) ∧ (xs.map (·.1)).Nodup ∧ (a == sysModules) = false
/-- the keys' tuples -/
def KeysIn (K : PySem.W.Frag) (H : Hp) (xs : List (NestedKey × Addr × Value)) : Prop := ∀ x ∈ xs, ∃ d, Dp K H (.ref x.2.1) d ∧ isKey d = true ∧ keyOf d = x.1 ∧ x.1.depth ≤ 8
section
variable {X : Cx} {pins : List (Addr × Obj)} {σ : L2.St} {H : Hp} {s : Shared} {P : Program} {w : World}
theorem qd_dict (I : Inv X pins σ H s) {a : Addr} {xs : List (NestedKey × Addr × Value)} (h : H a = some (qdO X.prog X.w a xs)) (k : KeysIn X.K H xs) : s.heap.DictOfH (nestedKind X.prog X.w) a xs ∧ (a == sysModules) = false := by
  have z : ObjOk X.prog X.w H s.heap a (qdO X.prog X.w a xs) := I.hok a _ h
  obtain ⟨⟨o, es, ep, h1, h2, h3, h4, h5, h6⟩, _⟩ := z
  refine ⟨⟨o, es, ep, h1, h2, h3, h4, fun x hx => ?_, h5⟩, h6⟩
  obtain ⟨d, d1, d2, d3, d4⟩ := k x hx
  exact ⟨d3 ▸ dp_nkey I d _ _ d1 rfl d2, d4⟩
/-- a dict that is empty, or one with such keys -/
def QD (P : Program) (w : World) (K : PySem.W.Frag) (H : Hp) (a : Addr) (xs : List (NestedKey × Addr × Value)) : Prop := (H a = some (qdO P w a xs) ∧ KeysIn K H xs) ∨ (H a = some (.dK []) ∧ xs = [])
theorem qd_at (I : Inv X pins σ H s) {a : Addr} {xs : List (NestedKey × Addr × Value)} (h : QD X.prog X.w X.K H a xs) : s.heap.DictOfH (nestedKind X.prog X.w) a xs ∧ (a == sysModules) = false := by
  rcases h with ⟨h, k⟩ | ⟨h, rfl⟩
  · exact qd_dict I h k
  · obtain ⟨_, hd, vs, rel, dd⟩ := dk_of I.hok h
    cases rel
    obtain ⟨o, es, ep, h1, h2, h3, _, pr, _⟩ := dd
    have e0 : es.toList = [] := by
      cases e : es.toList with
      | nil => rfl
      | cons x r =>
        rw [e] at pr
        cases pr
    exact ⟨⟨o, es, ep, h1, h2, h3, e0, (fun x hx => nomatch hx), List.nodup_nil⟩, hd⟩
theorem qd_ok {h : Heap} {a : Addr} {xs : List (NestedKey × Addr × Value)} (hm : h.DictOfH (nestedKind P w) a xs) (hs : (a == sysModules) = false) : ObjOk P w H h a (qdO P w a xs) := by
  obtain ⟨o, es, ep, h1, h2, h3, h4, h5, h6⟩ := hm
  refine ⟨⟨o, es, ep, h1, h2, h3, h4, h6, hs⟩, ⟨o, h1⟩, fun g1 g2 ⟨o, es, ep, a1, a2⟩ k => ⟨o, es, ep, k o a1, a2⟩⟩
/-- k in d -/
def rInQ (P : Program) (w : World) (K : PySem.W.Frag) (neg : Bool) : R2 := fun x y H Q => ∃ a xs d, y = .ref a ∧ QD P w K H a xs ∧ Dp K H x (.tuple d) ∧ areKeys d = true ∧ (keyOf (.tuple d)).depth ≤ 8 ∧ Q (.bl (if neg then !(atKey xs (keyOf (.tuple d))).isSome else (atKey xs (keyOf (.tuple d))).isSome)) H
theorem op_inQ (hu : X.A.units + 70 < cLine) : OpR X (compareOp .In) (rInQ X.prog X.w X.K false) := by
  intro pins s σ H x y v u Q I rx ry h
  obtain ⟨a, xs, d, rfl, hq, hd, k1, k2, q⟩ := h
  obtain rfl : u = Value.ref a := ry
  obtain ⟨hx, hs⟩ := qd_at I hq
  have nk := dp_nkey I (.tuple d) x v hd rx (by rw [isKey]; exact k1)
  cases hd with
  | tup h1 h2 =>
    obtain rfl : v = Value.ref _ := rx
    refine wpAny_in_heap (knd := nestedKind X.prog X.w) (show X.A.in1.units + 8 < cLine by show X.A.units + 1 + 8 < cLine; omega) ⟨nk, k2⟩ hs hx ⟨.bl _, H, I.tok _, rfl, q⟩
theorem op_notInQ (hu : X.A.units + 70 < cLine) : OpR X (compareOp .NotIn) (rInQ X.prog X.w X.K true) := by
  intro pins s σ H x y v u Q I rx ry h
  obtain ⟨a, xs, d, rfl, hq, hd, k1, k2, q⟩ := h
  obtain rfl : u = Value.ref a := ry
  obtain ⟨hx, hs⟩ := qd_at I hq
  have nk := dp_nkey I (.tuple d) x v hd rx (by rw [isKey]; exact k1)
  cases hd with
  | tup h1 h2 =>
    obtain rfl : v = Value.ref _ := rx
    show wpAny _ _ (do return Value.bool (!(← contains (Value.ref a) (Value.ref _)))) _ _ _
    exact wpAny_bind (wpAny_contains_heap (knd := nestedKind X.prog X.w) (show X.A.in1.units + 8 < cLine by show X.A.units + 1 + 8 < cLine; omega) ⟨nk, k2⟩ hs hx (wpAny_pure ⟨.bl _, H, I.tok _, rfl, q⟩))
/-- d[k] = v -/
def sQPut (P : Program) (w : World) (K : PySem.W.Frag) (td ty tv : TE) : TS := fun D σ H => tv σ H fun v H1 => td σ H1 fun x H2 => ty σ H2 fun y H3 => ∃ a xs b d, x = .ref a ∧ QD P w K H3 a xs ∧ y = .ref b ∧ Dp K H3 y (.tuple d) ∧ areKeys d = true ∧ (keyOf (.tuple d)).depth ≤ 8 ∧ xs.length < sizeLine ∧ ∀ r, RelV v r → D.nx σ (upd H3 a (qdO P w a (storedH xs (keyOf (.tuple d)) b r)))
end
section
variable {X : Cx} {o i value : Expr} {td ty tv : TE} {pos pos' : Pos}
theorem ps_qput (hu : X.A.units + 70 < cLine) (ho : PE X o td) (hi : PE X i ty) (hv : PE X value tv) (hs : swapsWith value (some (.Subscript o i pos')) pos.line X.env = pure false) : PS X (.Assign [.Subscript o i pos'] value pos) (sQPut X.prog X.w X.K td ty tv) := by
  refine ⟨fun pins s σ H D I h => ?_⟩
  refine wpAny_Assign_Subscript (thn (hv.run pins s σ H _ I h) fun r s1 ⟨v, H1, I1, rv, q1⟩ => thn (ho.run pins s1 σ H1 _ I1 q1) fun u s2 ⟨x, H2, I2, rx, q2⟩ => thn (hi.run pins s2 σ H2 _ I2 q2) fun iv s3 ⟨y, H3, I3, ry, z⟩ => ?_) hs
  obtain ⟨a, xs, b, d, ex, hq, ey, hd, k1, k2, hz, q⟩ := z
  subst ex ey
  obtain rfl : u = Value.ref a := rx
  obtain rfl : iv = Value.ref b := ry
  obtain ⟨hx, hsy⟩ := qd_at I3 hq
  have nk := dp_nkey I3 (.tuple d) (.ref b) (.ref b) hd rfl (by rw [isKey]; exact k1)
  refine wpAny_setItem_heap (knd := nestedKind X.prog X.w) (hsz := by omega) (show X.A.in1.units + 8 < cLine by show X.A.units + 1 + 8 < cLine; omega) ⟨nk, k2⟩ hx fun h' hm' hsb => ?_
  have hmu : L2.Mut (H3 a) := by
    rcases hq with ⟨e, _⟩ | ⟨e, _⟩ <;> rw [e] <;> exact True.intro
  exact ⟨σ, _, d_write I3 hmu hsb (let ⟨o, _, _, e, _⟩ := hm'; ⟨o, e⟩) (qd_ok hm' hsy), q r rv⟩
end
end Tv

namespace Tv
open PySem PySem.Spec PyProof.Rows L2 RZ StX
/-! ### dicts whose keys are nested tuples, by values -/
/-- an entry -/
structure QE (K : PySem.W.Frag) (F : Hp) (x : NestedKey × Addr × Value) (kw : PyData × W) : Prop where
  dp : Dp K F (.ref x.2.1) kw.1
  key : isKey kw.1 = true
  eq : keyOf kw.1 = x.1
  dep : x.1.depth ≤ 8
  val : ∃ v, RelV v x.2.2 ∧ Rp K F v kw.2
inductive QRel (K : PySem.W.Frag) (F : Hp) : List (NestedKey × Addr × Value) → List (PyData × W) → Prop
  | nil : QRel K F [] []
  | cons {x : NestedKey × Addr × Value} {kw : PyData × W} {xs : List (NestedKey × Addr × Value)} {kvs : List (PyData × W)} : QE K F x kw → QRel K F xs kvs → QRel K F (x :: xs) (kw :: kvs)
section
variable {K : PySem.W.Frag} {F G H : Hp} {P0 : Program} {w0 : World}
theorem QE.mono (e : Same F G) {x : NestedKey × Addr × Value} {kw : PyData × W} (h : QE K F x kw) : QE K G x kw :=
  ⟨dp_mono e kw.1 _ h.dp, h.key, h.eq, h.dep, let ⟨v, a, b⟩ := h.val; ⟨v, a, rp_mono e b⟩⟩
theorem QRel.mono (e : Same F G) : ∀ {xs : List (NestedKey × Addr × Value)} {kvs : List (PyData × W)}, QRel K F xs kvs → QRel K G xs kvs
  | _, _, .nil => .nil
  | _, _, .cons a t => .cons (a.mono e) (t.mono e)
theorem QRel.len : ∀ {xs : List (NestedKey × Addr × Value)} {kvs : List (PyData × W)}, QRel K F xs kvs → xs.length = kvs.length
  | _, _, .nil => rfl
  | _, _, .cons _ t => by rw [List.length_cons, List.length_cons, t.len]
theorem QRel.snoc {x : NestedKey × Addr × Value} {kw : PyData × W} (a : QE K F x kw) : ∀ {xs : List (NestedKey × Addr × Value)} {kvs : List (PyData × W)}, QRel K F xs kvs → QRel K F (xs ++ [x]) (kvs ++ [kw])
  | _, _, .nil => .cons a .nil
  | _, _, .cons b t => .cons b (t.snoc a)
theorem QRel.keys : ∀ {xs : List (NestedKey × Addr × Value)} {kvs : List (PyData × W)}, QRel K F xs kvs → KeysIn K F xs
  | _, _, .nil => fun x hx => nomatch hx
  | _, _, .cons (kw := kw) a t => fun x hx => by
    rcases List.mem_cons.mp hx with rfl | hx
    · exact ⟨kw.1, a.dp, a.key, a.eq, a.dep⟩
    · exact t.keys x hx
theorem QRel.at : ∀ {xs : List (NestedKey × Addr × Value)} {kvs : List (PyData × W)}, QRel K F xs kvs → ∀ k, (atKey xs k).isSome = decide (k ∈ kvs.map fun p => keyOf p.1)
  | _, _, .nil, k => by simp [atKey]
  | _, _, .cons (x := x) (kw := kw) (xs := xs) (kvs := kvs) a t, k => by
    have ih := t.at k
    by_cases h : x.1 = k
    · simp [atKey, h, a.eq]
    · have h2 : ¬ k = x.1 := fun z => h z.symm
      simp only [atKey, List.find?_cons, decide_eq_false h] at ih ⊢
      rw [ih]
      simp [a.eq, h2]
theorem KeysIn.mono (e : Same F G) {xs : List (NestedKey × Addr × Value)} (h : KeysIn K F xs) : KeysIn K G xs := fun x hx => by
  obtain ⟨d, a, b⟩ := h x hx
  exact ⟨d, dp_mono e d _ a, b⟩
end
/-- such a dict, as a thing that may change -/
def isQ (P0 : Program) (w0 : World) (K : PySem.W.Frag) (a : Addr) (kvs : List (PyData × W)) : Hp → HO → Prop := fun F o => (∃ xs, o = qdO P0 w0 a xs ∧ QRel K F xs kvs) ∨ (o = .dK [] ∧ kvs = [])
abbrev Bx.q (P0 : Program) (w0 : World) (K : PySem.W.Frag) (a : Addr) (kvs : List (PyData × W)) : Bx := .g (isQ P0 w0 K a kvs)
section
variable {K : PySem.W.Frag} {ρ : Rho} {U : UU} {P : W → UU → Prop} {P0 : Program} {w0 : World} {td ty tv : TE} {E : EndW}
theorem Sep.q {F H : Hp} (sp : Sep K F U H) {a : Addr} {kvs : List (PyData × W)} (hu : U a = some (.q P0 w0 K a kvs)) : ∃ xs, QD P0 w0 K H a xs ∧ QRel K F xs kvs ∧ F a = none := by
  obtain ⟨f, o, ho, hφ⟩ := sp.own a _ hu
  rcases hφ F (Same.refl F) with ⟨xs, rfl, r⟩ | ⟨rfl, rfl⟩
  · exact ⟨xs, .inl ⟨ho, r.keys.mono sp.sub⟩, r, f⟩
  · exact ⟨[], .inr ⟨ho, rfl⟩, .nil, f⟩
/-- {} -/
theorem ev_dnewQ (h : ∀ a, U a = none → P (.r a) (put U a (.q P0 w0 K a []))) : EV K tDNewK ρ U P := fun σ F H sl sp Q k p hp => by
  obtain ⟨s2, k2⟩ := sp.newB (b := .q P0 w0 K p []) (o := .dK []) hp ⟨_, upd_same, fun G e => .inr ⟨rfl, rfl⟩⟩
  exact k _ (.r p) F _ _ k2 s2 rfl (h p (sp.free hp).2)
/-- k in d, k not in d -/
theorem r2_inQ {neg : Bool} {a : Addr} {kvs : List (PyData × W)} {d : List PyData} (hu : U a = some (.q P0 w0 K a kvs)) (k1 : areKeys d = true) (k2 : (keyOf (.tuple d)).depth ≤ 8) (q : P (.b (if neg then !decide (keyOf (.tuple d) ∈ kvs.map fun p => keyOf p.1) else decide (keyOf (.tuple d) ∈ kvs.map fun p => keyOf p.1))) U) :
    R2W K (rInQ P0 w0 K neg) (.d (.tuple d)) (.r a) U P := fun v u F H sp rx ry Q k => by
  obtain rfl : u = .ref a := ry
  obtain ⟨xs, hq, r, _⟩ := sp.q hu
  refine ⟨a, xs, d, rfl, hq, dp_mono sp.sub _ _ rx, k1, k2, ?_⟩
  rw [r.at]
  exact k _ (.b _) F U H .refl sp (Dp.bl _) q
/-- d[k] = v, a new key -/
theorem sw_qput (h : EV K tv ρ U fun wv U1 => EV K td ρ U1 fun x U2 => EV K ty ρ U2 fun y U3 => ∃ a kvs d, x = .r a ∧ y = .d (.tuple d) ∧ U3 a = some (.q P0 w0 K a kvs) ∧ areKeys d = true ∧ (keyOf (.tuple d)).depth ≤ 8 ∧ kvs.length < sizeLine ∧
      keyOf (.tuple d) ∉ (kvs.map fun p => keyOf p.1) ∧ E.nx ρ (put U3 a (.q P0 w0 K a (kvs ++ [(.tuple d, wv)])))) : SW K (sQPut P0 w0 K td ty tv) ρ U E := fun σ F H D sl sp e =>
  h σ F H sl sp _ fun v wv F1 U1 H1 k1 s1 r1 h1 => h1 σ F1 H1 (sl.mono k1.sub) s1 _ fun u x F2 U2 H2 k2 s2 r2 h2 => h2 σ F2 H2 (sl.mono (k1.sub.trans k2.sub)) s2 _ fun z y F3 U3 H3 k3 s3 r3 ⟨a, kvs, d, ex, ey, hu, c1, c2, hl, hnew, q⟩ => by
    subst ex ey
    obtain rfl : u = .ref a := r2
    obtain ⟨xs, hq, rel, _⟩ := s3.q hu
    have hlen := rel.len
    have r3' : Dp K F3 z (.tuple d) := r3
    obtain ⟨b, rfl⟩ : ∃ b, z = .ref b := by
      cases r3' with
      | tup h1 h2 => exact ⟨_, rfl⟩
    have hn : atKey xs (keyOf (.tuple d)) = none := by
      have e0 := rel.at (keyOf (.tuple d))
      rw [decide_eq_false hnew] at e0
      exact Option.not_isSome_iff_eq_none.mp (by rw [e0]; exact Bool.false_ne_true)
    refine ⟨a, xs, b, d, rfl, hq, rfl, dp_mono s3.sub _ _ r3', c1, c2, by rw [hlen]; exact hl, fun r hr => ?_⟩
    rw [storedH_new hn]
    have rv : Rp K F3 v wv := rp_mono (k2.sub.trans k3.sub) r1
    obtain ⟨s4, k4⟩ := s3.set (b' := .q P0 w0 K a (kvs ++ [(.tuple d, wv)])) (o := qdO P0 w0 a (xs ++ [(keyOf (.tuple d), b, r)])) hu ⟨_, upd_same, fun G e2 => .inl ⟨_, rfl, (rel.mono e2).snoc ⟨dp_mono e2 _ _ r3', by rw [isKey]; exact c1, rfl, c2, v, hr, rp_mono e2 rv⟩⟩⟩
    have kk := ((k1.trans k2).trans k3).trans k4
    exact e.nx σ F3 _ ρ _ kk (sl.mono kk.sub) s4 q
end
section
variable {X : Cx} {Pg : Program} {w : World} {K : PySem.W.Frag} {o i value : Expr} {td ty tv : TE} {pos pos' : Pos}
/-- as the generator writes it -/
theorem psQPut (hP : X.prog = Pg) (hw : X.w = w) (hK : X.K = K) (hu : X.A.units + 70 < cLine) (ho : PE X o td) (hi : PE X i ty) (hv : PE X value tv) (hs : swapsWith value (some (.Subscript o i pos')) pos.line X.env = pure false) : PS X (.Assign [.Subscript o i pos'] value pos) (sQPut Pg w K td ty tv) := by
  subst hP hw hK
  exact ps_qput hu ho hi hv hs
theorem opInQ (hP : X.prog = Pg) (hw : X.w = w) (hK : X.K = K) (hu : X.A.units + 70 < cLine) : OpR X (compareOp .In) (rInQ Pg w K false) := by
  subst hP hw hK
  exact op_inQ hu
theorem opNotInQ (hP : X.prog = Pg) (hw : X.w = w) (hK : X.K = K) (hu : X.A.units + 70 < cLine) : OpR X (compareOp .NotIn) (rInQ Pg w K true) := by
  subst hP hw hK
  exact op_notInQ hu
end
end Tv

namespace Tv
open PySem PySem.Spec PyProof.Rows L2 RZ StX
/-! ### a dict keyed by nested tuples, walked -/
section
variable {X : Cx} {P : Program} {w : World} {K : PySem.W.Frag} {tg : Expr} {d : Addr} {o : Obj} {es : Array DictEntry} {ep : Nat}
def Itq (P : Program) (w : World) (d : Addr) (o : Obj) (xs : List (NestedKey × Addr × Value)) : It :=
  ⟨fun i H => H d = some (.frz o (qdO P w d xs)) ∧ i < xs.length, fun i H x H2 => H2 = H ∧ ∃ y, xs[i]? = some y ∧ x = .ref y.2.1, fun i H => H d = some (.frz o (qdO P w d xs)) ∧ xs.length ≤ i⟩
theorem frzQ {pins : List (Addr × Obj)} {σ : L2.St} {H : Hp} {s : Shared} {xs : List (NestedKey × Addr × Value)} (I : Inv X pins σ H s) (h : H d = some (.frz o (qdO X.prog X.w d xs))) :
    (d == sysModules) = false ∧ s.heap.get? d = some o ∧ o.ExactDict ∧ ∃ (es : Array DictEntry) (ep : Nat), o.data = .dict es ep ∧ es.size = xs.length ∧ ∀ (i : Nat) y, xs[i]? = some y → ∃ en : DictEntry, es[i]? = some en ∧ en.key = .ref y.2.1 := by
  obtain ⟨h0, ⟨o2, es, ep, h1, h2, h3, h4, _, h6⟩, _⟩ := I.hok d _ h
  rw [h0] at h1
  cases h1
  refine ⟨h6, h0, h2, es, ep, h3, size_of_entries h4, fun i y e => ?_⟩
  have z := entry_at h4 i
  rw [e] at z
  exact ⟨_, z, rfl⟩
theorem turn_keysQ {xs : List (NestedKey × Addr × Value)} (it : Addr) (hod : o.data = .dict es ep) : Turn P w K tg (Itq P w d o xs) [it] it (fun i h => h.IsKeyIter it d i xs.length ep) where
  mem := List.mem_singleton.mpr rfl
  obj := fun i h st b hb => by
    obtain rfl : b = it := List.mem_singleton.mp hb
    obtain ⟨oi, e1, e2, e3⟩ := st
    exact ⟨oi, e1, fun v z => by rw [e3] at z; cases z⟩
  keep := fun i h h2 st k => st.at fun oi e => k it (List.mem_singleton.mpr rfl) oi e
  item := by
    intro X q1 q2 q3 hcalm i pins s σ H E I hf st hg
    subst q1 q2 q3
    obtain ⟨hd, hi⟩ := hg
    obtain ⟨f0, f1, f2, f3, f4, f5⟩ := hf it (List.mem_singleton.mpr rfl)
    obtain ⟨hs, hgd, hx, es2, ep2, hdt, hsz, ent⟩ := frzQ I hd
    obtain ⟨rfl, rfl⟩ := dict_ep hod hdt
    obtain ⟨y, hy⟩ : ∃ y, xs[i]? = some y := ⟨xs[i], List.getElem?_eq_getElem hi⟩
    obtain ⟨en, hen, hkey⟩ := ent i y hy
    refine next_key_item st hgd hdt hsz hen fun h2 st2 sb => ?_
    have J : Inv X pins σ H { s with heap := h2 } := I.turned (t' := s.toks) (fun b ob hb e => (sb.2 b hb).trans e) f0 f1 f3 f4 f5
    obtain ⟨oi, e1, e2, e3⟩ := id st2
    exact ⟨en.key, rfl, go_of (s := { s with heap := h2 }) e1 e2 e3 (by decide) ⟨.ref y.2.1, H, J, hkey, ⟨rfl, y, hy, rfl⟩, st2, fun b hb => (hf b hb).1⟩⟩
  done := by
    intro X q1 q2 q3 hcalm i pins s σ H E I hf st hg
    subst q1 q2 q3
    obtain ⟨hd, hi⟩ := hg
    obtain ⟨f0, f1, f2, f3, f4, f5⟩ := hf it (List.mem_singleton.mpr rfl)
    obtain ⟨hs, hgd, hx, es2, ep2, hdt, hsz, ent⟩ := frzQ I hd
    obtain ⟨rfl, rfl⟩ := dict_ep hod hdt
    exact next_key_end (I.ok.hd hcalm) st hgd hdt hsz hi fun h2 eb => ⟨rfl, I.turned (t' := s.toks) (fun b ob hb e => eb b ob hb e) f0 f1 f3 f4 f5⟩
  self := fun A i s Q E st h => by
    refine wpAny_pyIter_slot st.typeIs F.slot_dict_keyiterator_iter (wpAny_call_entry F.slot_dict_keyiterator_iter st.typeIs F.entry_dict_keyiterator_iter ?_ (F.args_dict_keyiterator_iter_1 _))
    show wpAny _ _ (ret (Value.ref it)) _ _ s
    exact wpAny_pure ⟨_, rfl, "dict_keyiterator", _, st.typeIs, F.slot_dict_keyiterator_next.lookup, h⟩
/-- for k in d: d is set down for good -/
def iQ (P : Program) (w : World) (K : PySem.W.Frag) (td : TE) : TI := fun σ H R => td σ H fun x H1 => ∃ d xs, x = .ref d ∧ QD P w K H1 d xs ∧ ∀ od, R (Itq P w d od xs) (upd H1 d (.frz od (qdO P w d xs)))
theorem qd_tell {pins : List (Addr × Obj)} {σ : L2.St} {H : Hp} {s : Shared} {xs : List (NestedKey × Addr × Value)} (I : Inv X pins σ H s) (h : QD X.prog X.w X.K H d xs) : Inv X pins σ (upd H d (qdO X.prog X.w d xs)) s := by
  obtain ⟨hx, hs⟩ := qd_at I h
  have mu : L2.Mut (H d) := by
    rcases h with ⟨e, _⟩ | ⟨e, _⟩ <;> rw [e] <;> exact True.intro
  exact I.write (x := d) (e := d) (t' := s.toks) mu (.inl rfl) (fun b u _ e => e) (let ⟨o, _, _, e, _⟩ := hx; ⟨o, e⟩) (qd_ok hx hs)
theorem pi_keysQ {e : Expr} {td : TE} (he : PE X e td) : PI X tg e (iQ X.prog X.w X.K td) := by
  refine ⟨fun pins s σ H R I h => ?_⟩
  refine thn (he.run pins s σ H _ I h) fun u s1 ⟨x, H1, I1, rx, d, xs, ex, hq, q⟩ => ?_
  subst ex
  obtain rfl : u = Value.ref d := rx
  have I2 := qd_tell I1 hq
  obtain ⟨od, I3⟩ := I2.lock (u := qdO X.prog X.w d xs) upd_same True.intro
  rw [upd_upd] at I3
  obtain ⟨hs, hgd, hx, es, ep, hdt, hsz, ent⟩ := frzQ I3 upd_same
  refine iter_keys hs hgd hx hdt (pi_one (tk := s1.toks) I3 _ (turn_keysQ _ hdt) ⟨_, Heap.get?_push_size _ rfl, rfl, ?_⟩ (q od))
  rw [hsz] <;> rfl
end
theorem QRel.get {K : PySem.W.Frag} {F : Hp} : ∀ {xs : List (NestedKey × Addr × Value)} {kvs : List (PyData × W)}, QRel K F xs kvs → ∀ (i : Nat) y, xs[i]? = some y → ∃ kw, kvs[i]? = some kw ∧ QE K F y kw
  | _, _, .nil, i, y, e => by simp at e
  | _, _, .cons (kw := kw) a t, 0, y, e => by
    simp at e
    subst e
    exact ⟨kw, rfl, a⟩
  | _, _, .cons a t, i + 1, y, e => by
    simp at e
    obtain ⟨kw, h1, h2⟩ := t.get i y e
    exact ⟨kw, by simpa using h1, h2⟩
theorem cut_over {U : UU} {a : Addr} {b : Bx} : cut (put U a b) a = cut U a := by
  funext c
  by_cases h : c = a
  · subst h
    rw [cut_same, cut_same]
  · rw [cut_ne h, cut_ne h, put_ne h]
section
variable {K : PySem.W.Frag} {ρ : Rho} {U : UU} {P0 : Program} {w0 : World} {td : TE} {PI' : Nat → (Nat → PyData) → UU → Prop}
theorem iw_Q (h : EV K td ρ U fun x U1 => ∃ a kvs, x = .r a ∧ U1 a = some (.q P0 w0 K a kvs) ∧ PI' kvs.length (fun i => (kvs.map fun p => p.1).getD i .none) (cut U1 a)) : IW K (iQ P0 w0 K td) ρ U PI' := fun σ F H sl sp R k =>
  h σ F H sl sp _ fun v x F1 U1 H1 k1 s1 r1 ⟨a, kvs, ex, hu, q⟩ => by
    subst ex
    obtain rfl : v = .ref a := r1
    obtain ⟨xs, hq, rel, fa⟩ := s1.q hu
    refine ⟨a, xs, rfl, hq, fun od => ?_⟩
    obtain ⟨s2, k2⟩ := s1.set (b' := .g fun _ _ => True) (o := .frz od (qdO P0 w0 a xs)) hu ⟨_, upd_same, fun _ _ => True.intro⟩
    obtain ⟨s3, k3⟩ := s2.settle put_same upd_same
    rw [cut_over] at s3 k3
    have sub : Same F1 (upd F1 a (.frz od (qdO P0 w0 a xs))) := k3.sub
    refine k _ _ _ _ kvs.length (fun i => (kvs.map fun p => p.1).getD i .none) ((k1.trans k2).trans k3) s3 ⟨fun i H2 hi hs => ⟨hs _ _ upd_same, by rw [rel.len]; exact hi⟩, fun H2 hs => ⟨hs _ _ upd_same, by rw [rel.len]; exact Nat.le_refl _⟩, fun i F2 U2 H2 v H3 hi hs s4 y => ?_⟩ q
    obtain ⟨rfl, y, hy, rfl⟩ := y
    obtain ⟨kw, e1, e2⟩ := rel.get i y hy
    refine ⟨F2, .refl, s4, ?_⟩
    have e3 : (kvs.map fun p => p.1).getD i .none = kw.1 := by rw [List.getD_eq_getElem?_getD, List.getElem?_map, e1]; rfl
    show Dp K F2 _ ((kvs.map fun p => p.1).getD i .none)
    rw [e3]
    exact dp_mono (sub.trans hs) _ _ e2.dp
end
section
variable {X : Cx} {Pg : Program} {w : World} {K : PySem.W.Frag} {tg e : Expr} {td : TE}
theorem piQ (hP : X.prog = Pg) (hw : X.w = w) (hK : X.K = K) (he : PE X e td) : PI X tg e (iQ Pg w K td) := by
  subst hP hw hK
  exact pi_keysQ he
end
end Tv

namespace Tv
open PySem PySem.Spec PyProof.Rows L2 RZ StX
/-! ### sorted(xs) over nested data -/
/-- sorted data -/
def srtD (ds : List PyData) : List PyData := ds.mergeSort (PySem.W.dataLe false id)
def rSortD (K : PySem.W.Frag) : List V → Hp → VK → Prop := fun vs H Q => ∃ (l : Addr) (ds : List PyData) (us : List V), vs = [.ref l] ∧ SqL K H l us ∧ DpAll K H us ds ∧ PySem.W.AllAlike ds ∧ PySem.W.Sortable ds ∧ (∀ d ∈ ds, d.depth ≤ 60) ∧
  ∀ (a : Addr) (ws : List V), H a = none → ws.length ≤ sizeLine → (∀ G : Hp, DpAll K G us ds → DpAll K G ws (srtD ds)) → Q (.ref a) (upd H a (.lst ws))
section
variable {X : Cx} {H : Hp}
def AtG (K : PySem.W.Frag) (C : Hp → Prop) (v : Value) (d : PyData) : Prop := ∃ x : V, RelV x v ∧ ∀ G : Hp, C G → Dp K G x d
theorem each_of {K : PySem.W.Frag} {C : Hp → Prop} {G0 : Hp} (h0 : C G0) : ∀ {us : List V} {its : List Value} {ds : List PyData}, Vals us its → (∀ G, C G → DpAll K G us ds) → PySem.W.EachIs (AtG K C) its ds
  | _, _, [], .nil, _ => .nil
  | _, _, d :: ds, .nil, h => nomatch (h G0 h0)
  | _, _, [], .cons r rr, h => nomatch (h G0 h0)
  | _, _, d :: ds, .cons r rr, h => .cons ⟨_, r, fun G c => by cases h G c with | cons a b => exact a⟩ (each_of h0 rr fun G c => by cases h G c with | cons a b => exact b)
theorem of_each {K : PySem.W.Frag} {C : Hp → Prop} : ∀ {its : List Value} {ds : List PyData}, PySem.W.EachIs (AtG K C) its ds → ∃ us : List V, Vals us its ∧ ∀ G, C G → DpAll K G us ds
  | _, _, .nil => ⟨[], .nil, fun _ _ => .nil⟩
  | _, _, .cons ⟨x, a, b⟩ t => let ⟨us, c, d⟩ := of_each t; ⟨x :: us, .cons a c, fun G g => .cons (b G g) (d G g)⟩
theorem each_reads {pins : List (Addr × Obj)} {σ : L2.St} {s : Shared} (I : Inv X pins σ H s) : ∀ {us : List V} {its : List Value} {ds : List PyData}, Vals us its → DpAll X.K H us ds → PySem.W.EachIs (fun v d => ∃ as, Reads s.heap v (id d) as) its ds
  | _, _, _, .nil, .nil => .nil
  | _, _, _, .cons r rr, .cons a aa => .cons (Dp.reads I _ _ _ a r) (each_reads I rr aa)
theorem cr_sortD (hu : X.A.units + 70 < cLine) : CallR X (.builtin "sorted") (rSortD X.K) := by
  intro pins s σ H vs us0 Q I r h
  obtain ⟨l, ds, us, rfl, hl, hd, al, so, dp, q⟩ := h
  obtain ⟨u, rfl, ru⟩ := vals1 r
  obtain rfl : u = Value.ref l := ru
  obtain ⟨its, rv, pl, hz⟩ := I.list hl
  have hlen : us.length = ds.length := dpAll_len hd
  refine PySem.W.sorted_data (vs := its) (bs := ds) (enc := id) (R := AtG X.K fun G => DpAll X.K G us ds) pl.isList (each_of (C := fun G => DpAll X.K G us ds) hd rv fun G g => g) (each_reads I rv hd) (by rw [List.map_id]; exact al) (by rw [List.map_id]; exact so) (by omega) (fun b hb => by have := dp b hb; show X.A.units + 2 + b.depth < cLine; omega) fun out ho eo => ?_
  obtain ⟨ws, w1, w2⟩ := of_each eo
  obtain ⟨c, hc⟩ := PyProof.Rows.sortedAll_at s.heap its out.toArray
  have w3 := w1.length
  refine ⟨.ref (s.heap.objs.size + 1), _, I.laid (a := s.heap.objs.size + 1) (o := .lst ws) (t' := s.toks) (fun b o e => PyProof.Rows.sortedAll_old e) (Nat.le_succ _) ⟨by omega, out, c, w1, hc⟩, rfl, q _ ws (I.hok.fresh (Nat.le_succ _)) (by omega) w2⟩
end
section
variable {K : PySem.W.Frag} {U : UU} {P : W → UU → Prop}
theorem bSortND {X : Cx} (hu : X.A.units + 70 < cLine) (h : X.K = K := by exact rfl) : CallR X (.builtin "sorted") (rSortD K) := h ▸ cr_sortD hu
/-- the same items -/
theorem srtD_mem {ds : List PyData} {d : PyData} : d ∈ srtD ds ↔ d ∈ ds := (List.mergeSort_perm ds _).mem_iff
/-- sorted(xs) of data, as data -/
theorem rl_sortND {ds : List PyData} (al : PySem.W.AllAlike ds) (so : PySem.W.Sortable ds) (dp : ∀ d ∈ ds, d.depth ≤ 60) (q : P (.l (srtD ds)) U) : RLW K (rSortD K) [.d (.list ds)] U P := fun vs F H sp r Q k => by
  cases r with
  | cons a r =>
    cases r
    cases a with
    | lst hq ra =>
      refine ⟨_, ds, _, rfl, sp.sub.seq hq, dpAll_mono sp.sub _ _ ra, al, so, dp, fun p ws hp hz hws => ?_⟩
      obtain ⟨s2, k2⟩ := sp.fix (o := .lst ws) hp
      exact k _ (.l (srtD ds)) _ _ _ k2 s2 (.lst (SqL.of upd_same) (dpAll_mono k2.sub _ _ (hws F ra))) q
end
end Tv

namespace Tv
open PySem PySem.Spec PyProof.Rows L2 RZ StX
/-! ### x is None, x is not None -/
def rIsN : R2 := fun x y H Q => y = .non ∧ Q (.bl (decide (x = .non))) H
def rIsntN : R2 := fun x y H Q => y = .non ∧ Q (.bl (!decide (x = .non))) H
section
variable {X : Cx}
theorem opIsN : OpR X (compareOp .Is) rIsN := op_isN
end
def aNone : PyData → Bool | .none => true | _ => false
section
variable {K : PySem.W.Frag} {U : UU} {P : W → UU → Prop}
theorem dp_none {F : Hp} : ∀ {d : PyData} {v : V}, Dp K F v d → decide (v = .non) = aNone d
  | _, _, .non => rfl
  | _, _, .bl _ => rfl
  | _, _, .int _ => rfl
  | _, _, .str _ => rfl
  | _, _, .lst _ _ => rfl
  | _, _, .tup _ _ => rfl
theorem r2_isN {d : PyData} (q : P (.b (aNone d)) U) : R2W K rIsN (.d d) (.d .none) U P := fun v u F H sp x y Q k => by
  have y' : Dp K F u .none := y
  cases y'
  refine ⟨rfl, ?_⟩
  rw [dp_none x]
  exact k _ (.b _) F U H .refl sp (Dp.bl _) q
theorem r2_isNr {a : Addr} (q : P (.b false) U) : R2W K rIsN (.r a) (.d .none) U P := fun v u F H sp x y Q k => by
  have y' : Dp K F u .none := y
  cases y'
  obtain rfl : v = .ref a := x
  exact ⟨rfl, k _ (.b _) F U H .refl sp (Dp.bl _) q⟩
theorem r2_eqB {i j : Bool} (q : P (.b (decide (i = j))) U) : R2W K rEq (.d (.bool i)) (.d (.bool j)) U P := fun v u F H sp a b Q k => by
  cases a; cases b
  refine ⟨rfl, ?_⟩
  rw [show decide (V.bl i = V.bl j) = decide (i = j) by simp]
  exact k _ (.b _) F U H .refl sp (Dp.bl _) q
theorem gw_three {ρ : Rho} {gs : TGs} {N : Rho → UU → Prop} {x y z : PyData} (h : GsW K gs [.d x, .d y, .d z] ρ U N) : GW K (gTup K 3 gs) (.d (.tuple [x, y, z])) ρ U N := gw_tup rfl h
end
end Tv

namespace Tv
open PySem PySem.Spec PyProof.Rows L2 RZ StX
/-! ### xs * k of a list; a dict that is locked while it is walked -/
/-- a locked dict -/
def isLk (K : PySem.W.Frag) (od : Obj) (ps : List (Key × V)) (kvs : List (Key × W)) : Hp → HO → Prop := fun F o => o = .frz od (.dK ps) ∧ RpK K F ps kvs
abbrev Bx.lk (K : PySem.W.Frag) (od : Obj) (ps : List (Key × V)) (kvs : List (Key × W)) : Bx := .g (isLk K od ps kvs)
section
variable {K : PySem.W.Frag} {ρ : Rho} {U : UU} {P : W → UU → Prop} {F H : Hp} {td ty te : TE} {tt : TT} {g : TG} {vs : List Nat}
theorem r2_repM {p : Addr} {xs : List PyData} {k : Int} (hu : U p = some (.l (xs.map W.d))) (h1 : 0 ≤ k) (h2 : k ≤ 1000) (hz : xs.length ≤ 1000) (q : P (.l (List.replicate k.toNat xs).flatten) U) : R2W K rRep (.r p) (.d (.int k)) U P := fun v u F H sp a b Q kk => by
  obtain rfl : v = .ref p := a
  cases b
  obtain ⟨_, zs, e, _, r⟩ := sp.own p _ hu
  have hl := rpAll_len r
  have m : zs.length * k.toNat ≤ sizeLine := by
    have : zs.length ≤ 1000 := by rw [hl, List.length_map]; exact hz
    have h3 : k.toNat ≤ 1000 := by omega
    exact Nat.le_trans (Nat.mul_le_mul this h3) (by decide)
  refine ⟨p, k, zs, rfl, rfl, e, by omega, by omega, m, fun l hl2 => ?_⟩
  obtain ⟨s2, k2⟩ := sp.fix (o := .lst (List.replicate k.toNat zs).flatten) hl2
  refine kk _ (.l (List.replicate k.toNat xs).flatten) _ _ _ k2 s2 (.lst (SqL.of upd_same) ?_) q
  have d := dpAll_mono k2.sub xs zs (rpAll_dp r)
  generalize upd F l (.lst (List.replicate k.toNat zs).flatten) = G at d ⊢
  generalize k.toNat = n
  induction n with
  | zero => exact .nil
  | succ n ih =>
    rw [List.replicate_succ, List.replicate_succ, List.flatten_cons, List.flatten_cons]
    refine rpAll_dp ?_
    rw [List.map_append]
    exact rpAll_app (dp_rpAll d) (dp_rpAll ih)
theorem Sep.lk (sp : Sep K F U H) {d : Addr} {od : Obj} {ps : List (Key × V)} {kvs : List (Key × W)} (hu : U d = some (.lk K od ps kvs)) : H d = some (.frz od (.dK ps)) ∧ RpK K F ps kvs := by
  obtain ⟨_, o, ho, hφ⟩ := sp.own d _ hu
  obtain ⟨rfl, r⟩ := hφ F (Same.refl F)
  exact ⟨ho, r⟩
/-- an expression under the lock -/
theorem ev_lockK {t : TE} {d : Addr} {kvs : List (Key × W)} (hu : U d = some (.k kvs)) (h : ∀ od ps, EV K t ρ (put U d (.lk K od ps kvs)) fun w V => V d = some (.lk K od ps kvs) ∧ P w (put V d (.k kvs))) : EV K (tLockE t) ρ U P := fun σ F H sl sp Q k => by
  obtain ⟨_, ps, e, r⟩ := sp.own d _ hu
  refine ⟨d, .dK ps, e, True.intro, fun od => ?_⟩
  obtain ⟨s2, k2⟩ := sp.set (b' := .lk K od ps kvs) (o := .frz od (.dK ps)) hu ⟨_, upd_same, fun G e2 => ⟨rfl, r.mono e2⟩⟩
  refine h od ps σ F _ sl s2 _ fun v w F3 V H3 k3 s3 r3 ⟨hv, q⟩ => ?_
  obtain ⟨a, b⟩ := s3.lk hv
  obtain ⟨s4, k4⟩ := s3.set (b' := .k kvs) (o := .dK ps) hv ⟨ps, upd_same, b⟩
  exact ⟨a, k v w F3 _ _ ((k2.trans k3).trans k4) s4 r3 q⟩
/-- d[k] of a locked dict -/
theorem ev_dgetL (h : EV K td ρ U fun x U1 => EV K ty ρ U1 fun y U2 => ∃ d od ps kvs k w, x = .r d ∧ U2 d = some (.lk K od ps kvs) ∧ y = .d (kD k) ∧ getK kvs k = some w ∧ P w U2) : EV K (tDGet td ty) ρ U P := fun σ F H sl sp Q k =>
  h σ F H sl sp _ fun v x F1 U1 H1 k1 s1 r1 h1 => h1 σ F1 H1 (sl.mono k1.sub) s1 _ fun u y F2 U2 H2 k2 s2 r2 ⟨d, od, ps, kvs, key, w, ex, hu, ey, hw, q⟩ => by
    subst ex ey
    obtain rfl : v = .ref d := r1
    obtain ⟨h1, h2⟩ := s2.lk hu
    obtain rfl := dp_key r2
    rcases rpK_get (k := key) h2 with ⟨z, _⟩ | ⟨w', v', e1, e2, r'⟩
    · rw [hw] at z
      cases z
    · rw [hw] at e1
      cases e1
      exact ⟨d, v', rfl, .inl ⟨ps, key, .inr ⟨od, h1⟩, rfl, e2.symm⟩, k v' w F2 U2 H2 (k1.trans k2) s2 r' q⟩
theorem dp_kV {k : Key} : Dp K F (kV k) (kD k) := by
  cases k with
  | inl i => exact .int i
  | inr s => exact .str s
theorem rpK_at : ∀ {ps : List (Key × V)} {kvs : List (Key × W)}, RpK K F ps kvs → ∀ {i : Nat} {k : Key} {v : V}, ps[i]? = some (k, v) → ∃ w, kvs[i]? = some (k, w)
  | _, _, .nil, i, _, _, e => by simp at e
  | _, _, .cons _ t, 0, _, _, e => by
    simp at e
    obtain ⟨rfl, _⟩ := e
    exact ⟨_, rfl⟩
  | _, _, .cons _ t, i + 1, _, _, e => by
    obtain ⟨w, h⟩ := rpK_at t (i := i) (by simpa using e)
    exact ⟨w, by simpa using h⟩
/-- a comprehension over the keys of a locked dict -/
theorem ev_lcK (hg : Own g vs) (h : EV K td ρ U fun x U1 => ∃ d od ps kvs, x = .r d ∧ U1 d = some (.lk K od ps kvs) ∧ ∃ Iv : Nat → List PyData → UU → Prop, Iv 0 [] U1 ∧ (∀ i acc V, Iv i acc V → V d = some (.lk K od ps kvs)) ∧
      (∀ i acc V k w, kvs[i]? = some (k, w) → acc.length ≤ i → Iv i acc V → GW K g (.d (kD k)) (wipeR ρ vs) V fun ρ2 U2 => ET K tt ρ2 U2 fun b U3 =>
        (b = true → EV K te ρ2 U3 fun w U4 => ∃ x, w = .d x ∧ acc.length < sizeLine ∧ Iv (i + 1) (acc ++ [x]) U4) ∧ (b = false → Iv (i + 1) acc U3)) ∧
      ∀ acc V, acc.length ≤ kvs.length → Iv kvs.length acc V → P (.l acc) V) : EV K (tLc (iKeys td) g tt te vs) ρ U P := fun σ F H sl sp Q k =>
  h σ F H sl sp _ fun v x F1 U1 H1 k1 s1 r1 ⟨d, od, ps, kvs, ex, hu1, Iv, h0, hlk, hs, hd⟩ => by
    subst ex
    obtain rfl : v = .ref d := r1
    obtain ⟨l1, l2⟩ := s1.lk hu1
    have hlen := rpK_length l2
    refine ⟨d, od, rfl, .inl ⟨ps, l1, fun D hD => ?_⟩⟩
    obtain ⟨fD, uD⟩ := s1.free hD
    refine ⟨fun i m H2 => m = kvs.length - i ∧ i ≤ kvs.length ∧ ∃ F2 U2 acc vacc, Kp F1 U1 H1 F2 U2 H2 ∧ F2 D = none ∧ U2 D = none ∧ H2 D = some (.lst vacc) ∧ DpAll K F2 vacc acc ∧ acc.length ≤ i ∧ Sep K F2 U2 H2 ∧ Iv i acc U2,
      ⟨kvs.length, by simp, Nat.zero_le _, F1, U1, [], [], ?_, fD, uD, upd_same, .nil, Nat.le_refl _, ?_, h0⟩, ?_⟩
    · exact ⟨Same.refl F1, fun b o hb hf hu => ⟨by rw [upd_ne (ne_of_none hb hD)]; exact hb, hf, hu⟩⟩
    · exact ⟨fun b o e => by rw [upd_ne (ne_of_none e fD)]; exact s1.sub b o e, fun a ws e => by
        have ne : a ≠ D := fun z => by rw [z, uD] at e; cases e
        obtain ⟨a1, a2⟩ := s1.own a ws e
        exact ⟨a1, a2.mono (Same.refl _) (upd_ne ne)⟩⟩
    rintro i m H2 ⟨rfl, hi, F2, U2, acc, vacc, k2, f2, u2, hD2, da, hal, s2, inv⟩
    obtain ⟨m1, m2⟩ := s2.lk (hlk i acc U2 inv)
    by_cases hlt : i < kvs.length
    · refine .inr ⟨⟨m1, by omega⟩, fun H' => ∃ F' U' acc' vacc', Kp F1 U1 H1 F' U' H' ∧ F' D = none ∧ U' D = none ∧ H' D = some (.lst vacc') ∧ DpAll K F' vacc' acc' ∧ acc'.length ≤ i + 1 ∧ Sep K F' U' H' ∧ Iv (i + 1) acc' U',
        fun H' ⟨F', U', acc', vacc', a, b, c, d, e, f, g1, h1⟩ => ⟨kvs.length - (i + 1), by omega, rfl, hlt, F', U', acc', vacc', a, b, c, d, e, f, g1, h1⟩, fun x H3 y => ?_⟩
      obtain ⟨rfl, key, v, hp, rfl⟩ := y
      obtain ⟨w, hw⟩ := rpK_at m2 hp
      have hh : ∀ R : L2.St → Hp → Prop, g (kV key) (wipe σ vs) H3 R → g (kV key) (wipe σ vs) H3 fun σ2 H2 => wipe σ2 vs = wipe σ vs ∧ R σ2 H2 := fun R q => by
        have z := hg.own (kV key) (wipe σ vs) H3 R q
        rw [wipe_idem] at z
        exact z
      refine hh _ ?_
      have sl3 : Sl K F2 (wipe σ vs) (wipeR ρ vs) := (sl_wipe (sl.mono k1.sub) vs).mono k2.sub
      refine hs i acc U2 key w hw hal inv (wipe σ vs) F2 H3 (kV key) sl3 s2 dp_kV _ fun σ4 F4 H4 ρ4 U4 k4 sl4 s4 q => ?_
      refine q σ4 F4 H4 sl4 s4 _ fun b F5 U5 H5 k5 s5 ⟨qt, qf⟩ => ?_
      have kd : Kp F2 U2 H3 F5 U5 H5 := k4.trans k5
      obtain ⟨hD5, f5, u5⟩ := kd.rest D _ hD2 f2 u2
      cases b with
      | true =>
        rw [if_pos rfl]
        refine qt rfl σ4 F5 H5 (sl4.mono k5.sub) s5 _ fun v w F6 U6 H6 k6 s6 r6 ⟨x6, ew, hz, inv6⟩ => ?_
        subst ew
        obtain ⟨hD6, f6, u6⟩ := k6.rest D _ hD5 f5 u5
        have hlen := dpAll_len da
        refine ⟨vacc, hD6, by rw [hlen]; exact hz, F6, U6, acc ++ [x6], vacc ++ [v], ?_, f6, u6, upd_same, ?_, by simp; omega, ?_, inv6⟩
        · have k06 := (k2.trans kd).trans k6
          refine ⟨k06.sub, fun b o hb hf hu => ?_⟩
          have ne : b ≠ D := ne_of_none hb hD
          obtain ⟨c1, c2, c3⟩ := k06.rest b o hb hf hu
          exact ⟨by rw [upd_ne ne]; exact c1, c2, c3⟩
        · have a1 := dpAll_mono (kd.sub.trans k6.sub) acc vacc da
          exact rpAll_dp (by
            rw [List.map_append]
            exact rpAll_app (dp_rpAll a1) (.cons r6 .nil))
        · exact ⟨fun b o e => by rw [upd_ne (ne_of_none e f6)]; exact s6.sub b o e, fun a ws e => by
            have ne : a ≠ D := fun z => by rw [z, u6] at e; cases e
            obtain ⟨a1, a2⟩ := s6.own a ws e
            exact ⟨a1, a2.mono (Same.refl _) (upd_ne ne)⟩⟩
      | false =>
        rw [if_neg Bool.false_ne_true]
        exact ⟨F5, U5, acc, vacc, k2.trans kd, f5, u5, hD5, dpAll_mono kd.sub acc vacc da, Nat.le_succ_of_le hal, s5, qf rfl⟩
    · obtain rfl : i = kvs.length := by omega
      refine .inl ⟨⟨m1, by omega⟩, ?_⟩
      have e1 : Same F2 (upd F2 D (.lst vacc)) := fun b o e => by rw [upd_ne (ne_of_none e f2)]; exact e
      refine k (.ref D) (.l acc) (upd F2 D (.lst vacc)) U2 H2 ⟨k1.sub.trans (k2.sub.trans e1), fun b o hb hf hu => ?_⟩ ⟨fun b o e => ?_, fun a ws e => ?_⟩ (.lst (SqL.of upd_same) (dpAll_mono e1 acc vacc da)) (hd acc U2 hal inv)
      · obtain ⟨b1, b2, b3⟩ := k1.rest b o hb hf hu
        have ne : b ≠ D := ne_of_none b1 hD
        obtain ⟨c1, c2, c3⟩ := k2.rest b o b1 b2 b3
        exact ⟨c1, by rw [upd_ne ne]; exact c2, c3⟩
      · by_cases z : b = D
        · rw [z, upd_same] at e
          rw [z, hD2]
          exact e
        · rw [upd_ne z] at e
          exact s2.sub b o e
      · have ne : a ≠ D := fun z => by rw [z, u2] at e; cases e
        obtain ⟨a1, a2⟩ := s2.own a ws e
        exact ⟨by rw [upd_ne ne]; exact a1, a2.mono e1 rfl⟩
end
end Tv

namespace PB
open Tv
/-- a way: nodes 0 to N, each with a place and parts; the step from t to t + 1 is that of line ln t -/
structure Way (α : Type) where
  N : Nat
  pl : Nat → α
  dep : α → Nat
  x : Nat → Nat → Bool × Nat
  st : Nat → Nat → Bool × Nat
  ln : Nat → Nat
def le (a b : Bool × Nat) : Prop := a.2 ≤ b.2 ∧ (a.1 = b.1 ∨ a.1 = false)
theorem le_refl (a : Bool × Nat) : le a a := ⟨Nat.le_refl _, .inl rfl⟩
theorem le_trans {a b c : Bool × Nat} (h : le a b) (g : le b c) : le a c := ⟨Nat.le_trans h.1 g.1, by
  rcases h.2 with h | h
  · rcases g.2 with g | g
    · exact .inl (h.trans g)
    · exact .inr (h.trans g)
  · exact .inr h⟩
variable {α : Type}
/-- part o is set in step t -/
def Way.setAt (w : Way α) (t o : Nat) : Prop := o < w.dep (w.pl (t + 1)) ∧ (w.st t o).1 = false
structure Way.Ok (w : Way α) (E : Nat) (ps : List α) : Prop where
  step : ∀ t, t < w.N → ∀ o, o < w.dep (w.pl (t + 1)) → w.x (t + 1) o = if (w.st t o).1 = true then ((w.x t o).1, (w.x t o).2 + (w.st t o).2) else (false, (w.st t o).2)
  lead : ∀ t, t < w.N → ∀ o, o < w.dep (w.pl (t + 1)) → (w.st t o).1 = true → o < w.dep (w.pl t)
  few : ∀ t, t < w.N → ∀ o, o < w.dep (w.pl (t + 1)) → (w.st t o).2 ≤ 3
  lns : ∀ t, t < w.N → w.ln t < E
  same : ∀ s t, s < w.N → t < w.N → w.ln s = w.ln t → w.pl (s + 1) = w.pl (t + 1) ∧ ∀ o, w.st s o = w.st t o
  pls : ∀ t, t ≤ w.N → w.pl t ∈ ps
  dp : ∀ t, t ≤ w.N → w.dep (w.pl t) ≤ 3
  bad : ∀ i j, i < j → j ≤ w.N → w.pl i = w.pl j → ∃ o, o < w.dep (w.pl i) ∧ ¬ le (w.x i o) (w.x j o)
  sound : ∀ i j, i < j → j ≤ w.N → w.pl i = w.pl j → ∃ k, k < w.dep (w.pl i) ∧ ∀ t, i ≤ t → t < j → ¬ w.setAt t k
variable {w : Way α} {E : Nat} {ps : List α}
/-- where a part is not set, it climbs -/
theorem Way.Ok.mono (h : w.Ok E ps) {o : Nat} (i : Nat) : ∀ d, i + d ≤ w.N → (∀ t, i ≤ t → t < i + d → ¬ w.setAt t o) → o < w.dep (w.pl (i + d)) → o < w.dep (w.pl i) ∧ le (w.x i o) (w.x (i + d) o) ∧ (w.x (i + d) o).2 ≤ (w.x i o).2 + 3 * d
  | 0, _, _, hd => ⟨hd, le_refl _, Nat.le_refl _⟩
  | d + 1, hN, hq, hd => by
    have hlt : i + d < w.N := by omega
    have hd' : o < w.dep (w.pl (i + d + 1)) := hd
    have nk : (w.st (i + d) o).1 = true := by
      cases e : (w.st (i + d) o).1 with
      | true => rfl
      | false => exact absurd ⟨hd', e⟩ (hq (i + d) (by omega) (by omega))
    obtain ⟨a, b, c⟩ := h.mono i d (by omega) (fun t h1 h2 => hq t h1 (by omega)) (h.lead _ hlt o hd' nk)
    have s := h.step _ hlt o hd'
    rw [if_pos nk] at s
    have f := h.few _ hlt o hd'
    refine ⟨a, le_trans b ?_, ?_⟩
    · show le _ (w.x (i + d + 1) o)
      rw [s]
      exact ⟨Nat.le_add_right _ _, .inl rfl⟩
    · show (w.x (i + d + 1) o).2 ≤ _
      rw [s]
      show (w.x (i + d) o).2 + _ ≤ _
      omega
/-- between two visits some part is set -/
theorem Way.Ok.sets (h : w.Ok E ps) {i j : Nat} (hij : i < j) (hj : j ≤ w.N) (e : w.pl i = w.pl j) : ∃ o t, o < w.dep (w.pl i) ∧ i ≤ t ∧ t < j ∧ w.setAt t o ∧ ¬ le (w.x i o) (w.x j o) := by
  obtain ⟨o, ho, hn⟩ := h.bad i j hij hj e
  obtain ⟨d, rfl⟩ : ∃ d, j = i + d := ⟨j - i, by omega⟩
  by_cases q : ∀ t, i ≤ t → t < i + d → ¬ w.setAt t o
  · exact absurd (h.mono i d hj q (by rw [← e]; exact ho)).2.1 hn
  · have q' : ∃ t, i ≤ t ∧ t < i + d ∧ w.setAt t o := by
      refine Classical.byContradiction fun z => q fun t h1 h2 h3 => z ⟨t, h1, h2, h3⟩
    obtain ⟨t, h1, h2, h3⟩ := q'
    exact ⟨o, t, ho, h1, h2, h3, hn⟩
/-- the last one, or none -/
theorem last_or (P : Nat → Prop) (a : Nat) : ∀ d, (∀ s, a ≤ s → s < a + d → ¬ P s) ∨ ∃ s, a ≤ s ∧ s < a + d ∧ P s ∧ ∀ r, s < r → r < a + d → ¬ P r
  | 0 => .inl fun s h1 h2 => by omega
  | d + 1 => by
    by_cases z : P (a + d)
    · exact .inr ⟨a + d, by omega, by omega, z, fun r h1 h2 => by omega⟩
    · rcases last_or P a d with q | ⟨s, h1, h2, h3, h4⟩
      · refine .inl fun s h1 h2 => ?_
        by_cases e : s = a + d
        · rw [e]; exact z
        · exact q s h1 (by omega)
      · refine .inr ⟨s, h1, by omega, h3, fun r g1 g2 => ?_⟩
        by_cases e : r = a + d
        · rw [e]; exact z
        · exact h4 r g1 (by omega)
/-- more nodes than places for them -/
theorem pigeon {β : Type} [DecidableEq β] {n : Nat} (f : Nat → β) (ys : List β) (m : ∀ i, i < n → f i ∈ ys) (inj : ∀ i j, i < j → j < n → f i ≠ f j) : n ≤ ys.length := by
  have nd : ((List.range n).map f).Nodup := by
    refine List.pairwise_map.mpr ((List.pairwise_lt_range (n := n)).imp_of_mem fun {a b} ha hb hab => inj a b hab (List.mem_range.mp hb))
  have z := mem_len nd fun y hy => by
    obtain ⟨i, hi, rfl⟩ := List.mem_map.mp hy
    exact m i (List.mem_range.mp hi)
  rwa [List.length_map, List.length_range] at z
theorem prod_len {β γ : Type} (xs : List β) (ys : List γ) : (xs.flatMap fun x => ys.map fun y => (x, y)).length = xs.length * ys.length := by
  induction xs with
  | nil => simp
  | cons x xs ih => rw [List.flatMap_cons, List.length_append, ih, List.length_map, List.length_cons, Nat.succ_mul, Nat.add_comm]
theorem prod_mem {β γ : Type} {xs : List β} {ys : List γ} {x : β} {y : γ} (hx : x ∈ xs) (hy : y ∈ ys) : (x, y) ∈ xs.flatMap fun x => ys.map fun y => (x, y) :=
  List.mem_flatMap.mpr ⟨x, hx, List.mem_map.mpr ⟨y, hy, rfl⟩⟩
open Classical in
/-- the line that set part o last, from a on; E where there is none -/
noncomputable def Way.key (w : Way α) (E o a t : Nat) : Nat := if h : ∃ s, a ≤ s ∧ s < t ∧ w.setAt s o ∧ ∀ r, s < r → r < t → ¬ w.setAt r o then w.ln h.choose else E
theorem Way.key_some {o a t : Nat} (hat : a ≤ t) (hE : w.key E o a t ≠ E) : ∃ s, a ≤ s ∧ s < t ∧ w.setAt s o ∧ (∀ r, s < r → r < t → ¬ w.setAt r o) ∧ w.key E o a t = w.ln s := by
  unfold Way.key at hE ⊢
  split at hE
  · rename_i h
    obtain ⟨h1, h2, h3, h4⟩ := h.choose_spec
    exact ⟨h.choose, h1, h2, h3, h4, by rw [dif_pos h]⟩
  · exact absurd rfl hE
theorem Way.key_none (h : w.Ok E ps) {o a t : Nat} (hat : a ≤ t) (ht : t ≤ w.N) (hE : w.key E o a t = E) : ∀ s, a ≤ s → s < t → ¬ w.setAt s o := by
  obtain ⟨d, rfl⟩ : ∃ d, t = a + d := ⟨t - a, by omega⟩
  rcases last_or (fun s => w.setAt s o) a d with q | q
  · exact q
  · exfalso
    unfold Way.key at hE
    rw [dif_pos q] at hE
    have := h.lns q.choose (by have := q.choose_spec.2.1; omega)
    omega
/-- where only one part is set -/
theorem Way.Ok.seg (h : w.Ok E ps) {o1 a b : Nat} (hab : a ≤ b) (hb : b ≤ w.N) (q : ∀ t, a ≤ t → t < b → ∀ o, o ≠ o1 → ¬ w.setAt t o) : b + 1 ≤ a + (E + 1) * ps.length := by
  classical
  have main : b + 1 - a ≤ ((List.range (E + 1)).flatMap fun e => ps.map fun p => (e, p)).length := by
    refine pigeon (fun i => (w.key E o1 a (a + i), w.pl (a + i))) _ (fun i hi => prod_mem (List.mem_range.mpr ?_) (h.pls _ (by omega))) fun i j hij hj e => ?_
    · by_cases z : w.key E o1 a (a + i) = E
      · omega
      · obtain ⟨s, h1, h2, h3, h4, h5⟩ := Way.key_some (by omega) z
        rw [h5]
        have := h.lns s (by omega)
        omega
    · have e1 : w.key E o1 a (a + i) = w.key E o1 a (a + j) := congrArg Prod.fst e
      have e2 : w.pl (a + i) = w.pl (a + j) := congrArg Prod.snd e
      obtain ⟨o, t, ho, t1, t2, hs, hn⟩ := h.sets (i := a + i) (j := a + j) (by omega) (by omega) e2
      have oo : o = o1 := Classical.byContradiction fun z => q t (by omega) (by omega) o z hs
      subst oo
      by_cases z : w.key E o a (a + j) = E
      · exact Way.key_none h (by omega) (by omega) z t (by omega) t2 hs
      · obtain ⟨s', g1, g2, g3, g4, g5⟩ := Way.key_some (by omega) z
        have sge : a + i ≤ s' := by
          refine Classical.byContradiction fun y => ?_
          exact g4 t (by omega) t2 hs
        obtain ⟨s, k1, k2, k3, k4, k5⟩ := Way.key_some (w := w) (E := E) (o := o) (a := a) (t := a + i) (by omega) (by rw [e1]; exact z)
        have hl : w.ln s = w.ln s' := by rw [← k5, ← g5]; exact e1
        obtain ⟨p1, p2⟩ := h.same s s' (by omega) (by omega) hl
        obtain ⟨o2, ho2, hn2⟩ := h.bad (s + 1) (s' + 1) (by omega) (by omega) p1
        by_cases c : o2 = o
        · subst c
          apply hn2
          rw [h.step s (by omega) o2 ho2, h.step s' (by omega) o2 (by rw [← p1]; exact ho2), k3.2, g3.2, p2 o2]
          exact le_refl _
        · apply hn2
          obtain ⟨d, hd⟩ : ∃ d, s' + 1 = s + 1 + d := ⟨s' - s, by omega⟩
          rw [hd]
          refine (h.mono (s + 1) d (by omega) (fun r r1 r2 => q r (by omega) (by omega) o2 c) ?_).2.1
          rw [← hd, ← p1]
          exact ho2
  rw [prod_len, List.length_range] at main
  omega
/-- its sign stays where it is not set -/
theorem Way.Ok.sign (h : w.Ok E ps) {o : Nat} (i : Nat) : ∀ d, i + d ≤ w.N → (∀ t, i ≤ t → t < i + d → ¬ w.setAt t o) → o < w.dep (w.pl (i + d)) → (w.x (i + d) o).1 = (w.x i o).1
  | 0, _, _, _ => rfl
  | d + 1, hN, hq, hd => by
    have hlt : i + d < w.N := by omega
    have hd' : o < w.dep (w.pl (i + d + 1)) := hd
    have nk : (w.st (i + d) o).1 = true := by
      cases e : (w.st (i + d) o).1 with
      | true => rfl
      | false => exact absurd ⟨hd', e⟩ (hq (i + d) (by omega) (by omega))
    have a := h.sign i d (by omega) (fun t h1 h2 => hq t h1 (by omega)) (h.lead _ hlt o hd' nk)
    have s := h.step _ hlt o hd'
    rw [if_pos nk] at s
    show (w.x (i + d + 1) o).1 = _
    rw [s]
    exact a
theorem first_or (P : Nat → Prop) : ∀ n, (∀ s, s < n → ¬ P s) ∨ ∃ s, s < n ∧ P s ∧ ∀ r, r < s → ¬ P r
  | 0 => .inl fun s h => by omega
  | n + 1 => by
    rcases first_or P n with q | ⟨s, h1, h2, h3⟩
    · by_cases z : P n
      · exact .inr ⟨n, by omega, z, q⟩
      · refine .inl fun s h => ?_
        by_cases e : s = n
        · rw [e]; exact z
        · exact q s (by omega)
    · exact .inr ⟨s, by omega, h2, h3⟩
/-- a part that was set from v on: without a sign, and not great -/
theorem Way.Ok.small (h : w.Ok E ps) {k o o' v vm t : Nat} (hk : ∀ r, v ≤ r → r < vm → ¬ w.setAt r k) (ko : ∀ z, z < 3 → z = k ∨ z = o ∨ z = o') (hv : v ≤ t) (htv : t ≤ vm) (ht : vm ≤ w.N) (hs : ∃ s, v ≤ s ∧ s < t ∧ w.setAt s o) (hd : o < w.dep (w.pl t)) :
    (w.x t o).1 = false ∧ (w.x t o).2 ≤ 3 + 3 * ((E + 1) * ps.length) := by
  obtain ⟨d, hd0⟩ : ∃ d, t = v + d := ⟨t - v, by omega⟩
  obtain ⟨s, s1, s2, s3, s4⟩ : ∃ s, v ≤ s ∧ s < t ∧ w.setAt s o ∧ ∀ r, s < r → r < t → ¬ w.setAt r o := by
    rcases last_or (fun s => w.setAt s o) v d with q | q
    · obtain ⟨s, s1, s2, s3⟩ := hs
      exact absurd s3 (q s s1 (by omega))
    · rwa [← hd0] at q
  obtain ⟨e, he⟩ : ∃ e, t = s + 1 + e := ⟨t - s - 1, by omega⟩
  have qn : ∀ r, s + 1 ≤ r → r < s + 1 + e → ¬ w.setAt r o := fun r r1 r2 => s4 r (by omega) (by omega)
  have m := h.mono (s + 1) e (by omega) qn (by rw [← he]; exact hd)
  have g := h.sign (s + 1) e (by omega) qn (by rw [← he]; exact hd)
  have st := h.step s (by omega) o s3.1
  rw [if_neg (by rw [s3.2]; exact Bool.false_ne_true)] at st
  have f3 := h.few s (by omega) o s3.1
  have sg := h.seg (o1 := o') (a := s + 1) (b := t) (by omega) (by omega) fun r r1 r2 z hz hset => by
    have z3 : z < 3 := Nat.lt_of_lt_of_le hset.1 (h.dp (r + 1) (by omega))
    rcases ko z z3 with rfl | rfl | rfl
    · exact hk r (by omega) (by omega) hset
    · exact s4 r (by omega) (by omega) hset
    · exact hz rfl
  rw [he]
  refine ⟨by rw [g, st], ?_⟩
  have m3 := m.2.2
  rw [st] at m3
  have m4 : (w.x (s + 1 + e) o).2 ≤ (w.st s o).2 + 3 * e := m3
  omega
/-- codes of visits -/
def codes (S B : Nat) : List (Nat × Nat × Nat) := ((List.range S).map fun d => (0, d, 0)) ++ (((List.range S).map fun d => (1, d, 0)) ++ ((List.range (B + 1)).flatMap fun u => (List.range (B + 1)).map fun v => (u, v)).map fun q => (2, q.1, q.2))
theorem codes_len (S B : Nat) : (codes S B).length = S + (S + (B + 1) * (B + 1)) := by
  rw [codes, List.length_append, List.length_append, List.length_map, List.length_map, List.length_map, prod_len, List.length_range, List.length_range]
theorem codes0 {S B d : Nat} (h : d < S) : (0, d, 0) ∈ codes S B := List.mem_append_left _ (List.mem_map.mpr ⟨d, List.mem_range.mpr h, rfl⟩)
theorem codes1 {S B d : Nat} (h : d < S) : (1, d, 0) ∈ codes S B := List.mem_append_right _ (List.mem_append_left _ (List.mem_map.mpr ⟨d, List.mem_range.mpr h, rfl⟩))
theorem codes2 {S B u v : Nat} (h : u ≤ B) (g : v ≤ B) : (2, u, v) ∈ codes S B := List.mem_append_right _ (List.mem_append_right _ (List.mem_map.mpr ⟨(u, v), prod_mem (List.mem_range.mpr (by omega)) (List.mem_range.mpr (by omega)), rfl⟩))
theorem others {k : Nat} (h : k < 3) : ∃ o1 o2, o1 ≠ k ∧ o2 ≠ k ∧ ∀ z, z < 3 → z = k ∨ z = o1 ∨ z = o2 := by
  rcases (show k = 0 ∨ k = 1 ∨ k = 2 by omega) with rfl | rfl | rfl
  · exact ⟨1, 2, by omega, by omega, fun z h => by omega⟩
  · exact ⟨0, 2, by omega, by omega, fun z h => by omega⟩
  · exact ⟨0, 1, by omega, by omega, fun z h => by omega⟩
theorem Way.Ok.per (h : w.Ok E ps) (p : α) : ∃ c : Nat → Nat × Nat × Nat, (∀ t, t ≤ w.N → w.pl t = p → c t ∈ codes ((E + 1) * ps.length) (3 + 3 * ((E + 1) * ps.length))) ∧ ∀ i j, i < j → j ≤ w.N → w.pl i = p → w.pl j = p → c i ≠ c j := by
  classical
  have S0 : 0 < (E + 1) * ps.length := Nat.mul_pos (by omega) (List.length_pos_of_mem (h.pls 0 (Nat.zero_le _)))
  rcases first_or (fun s => w.pl s = p) (w.N + 1) with q | ⟨v0, a1, a2, a3⟩
  · exact ⟨fun _ => (0, 0, 0), fun t ht e => absurd e (q t (by omega)), fun i j _ hj e _ => absurd e (q i (by omega))⟩
  rcases last_or (fun s => w.pl s = p) 0 (w.N + 1) with q | ⟨vm, b1, b2, b3, b4⟩
  · exact absurd a2 (q v0 (by omega) (by omega))
  have in1 : ∀ t, t ≤ w.N → w.pl t = p → v0 ≤ t ∧ t ≤ vm := fun t ht e => by
    constructor
    · exact Classical.byContradiction fun z => a3 t (by omega) e
    · exact Classical.byContradiction fun z => b4 t (by omega) (by omega) e
  by_cases hlt : v0 < vm
  rotate_left
  · exact ⟨fun _ => (0, 0, 0), fun t ht e => codes0 S0, fun i j hij hj e1 e2 => by
      have := in1 i (by omega) e1
      have := in1 j hj e2
      omega⟩
  obtain ⟨k, k1, k2⟩ := h.sound v0 vm hlt (by omega) (a2.trans b3.symm)
  have k3 : k < 3 := Nat.lt_of_lt_of_le k1 (h.dp v0 (by omega))
  obtain ⟨o1, o2, n1, n2, ko⟩ := others k3
  have ko' : ∀ z, z < 3 → z = k ∨ z = o2 ∨ z = o1 := fun z hz => by
    rcases ko z hz with a | a | a
    · exact .inl a
    · exact .inr (.inr a)
    · exact .inr (.inl a)
  let P1 : Nat → Prop := fun t => ∃ s, v0 ≤ s ∧ s < t ∧ w.setAt s o1
  let P2 : Nat → Prop := fun t => ∃ s, v0 ≤ s ∧ s < t ∧ w.setAt s o2
  let val : Nat → Nat → Nat := fun t o => if o < w.dep p then (w.x t o).2 else 0
  refine ⟨fun t => if P1 t then (if P2 t then (2, val t o1, val t o2) else (1, t - v0, 0)) else (0, t - v0, 0), fun t ht e => ?_, fun i j hij hj e1 e2 => ?_⟩
  · obtain ⟨i1, i2⟩ := in1 t ht e
    have shrt : ∀ {oa ob : Nat}, (∀ z, z < 3 → z = k ∨ z = oa ∨ z = ob) → (¬ ∃ s, v0 ≤ s ∧ s < t ∧ w.setAt s oa) → t - v0 < (E + 1) * ps.length := fun {oa ob} kk hn => by
      have sg := h.seg (o1 := ob) (a := v0) (b := t) i1 (by omega) fun r r1 r2 z hz hset => by
        have z3 : z < 3 := Nat.lt_of_lt_of_le hset.1 (h.dp (r + 1) (by omega))
        rcases kk z z3 with rfl | rfl | rfl
        · exact k2 r r1 (by omega) hset
        · exact hn ⟨r, r1, r2, hset⟩
        · exact hz rfl
      omega
    have vb : ∀ {oa ob : Nat}, (∀ z, z < 3 → z = k ∨ z = oa ∨ z = ob) → (∃ s, v0 ≤ s ∧ s < t ∧ w.setAt s oa) → val t oa ≤ 3 + 3 * ((E + 1) * ps.length) := fun {oa ob} kk hs => by
      show (if oa < w.dep p then (w.x t oa).2 else 0) ≤ _
      split
      · rename_i hd
        exact (h.small (o := oa) (o' := ob) k2 kk i1 i2 (by omega) hs (by rw [e]; exact hd)).2
      · omega
    show (if P1 t then (if P2 t then (2, val t o1, val t o2) else (1, t - v0, 0)) else (0, t - v0, 0)) ∈ _
    by_cases z1 : P1 t
    · rw [if_pos z1]
      by_cases z2 : P2 t
      · rw [if_pos z2]
        exact codes2 (vb ko z1) (vb ko' z2)
      · rw [if_neg z2]
        exact codes1 (shrt ko' z2)
    · rw [if_neg z1]
      exact codes0 (shrt ko z1)
  · intro e
    have e : (if P1 i then (if P2 i then (2, val i o1, val i o2) else (1, i - v0, 0)) else (0, i - v0, 0)) = (if P1 j then (if P2 j then (2, val j o1, val j o2) else (1, j - v0, 0)) else (0, j - v0, 0)) := e
    obtain ⟨i1, i2⟩ := in1 i (by omega) e1
    obtain ⟨j1, j2⟩ := in1 j hj e2
    have up1 : P1 i → P1 j := fun ⟨s, x, y, z⟩ => ⟨s, x, by omega, z⟩
    have up2 : P2 i → P2 j := fun ⟨s, x, y, z⟩ => ⟨s, x, by omega, z⟩
    by_cases z1 : P1 i
    · rw [if_pos z1, if_pos (up1 z1)] at e
      by_cases z2 : P2 i
      · rw [if_pos z2, if_pos (up2 z2)] at e
        have v1 : val i o1 = val j o1 := congrArg (fun q => q.2.1) e
        have v2 : val i o2 = val j o2 := congrArg (fun q => q.2.2) e
        obtain ⟨o, ho, hn⟩ := h.bad i j hij hj (e1.trans e2.symm)
        apply hn
        have o3 : o < 3 := Nat.lt_of_lt_of_le ho (h.dp i (by omega))
        have ho' : o < w.dep p := by rw [← e1]; exact ho
        have same : ∀ {oa ob : Nat}, (∀ z, z < 3 → z = k ∨ z = oa ∨ z = ob) → (∃ s, v0 ≤ s ∧ s < i ∧ w.setAt s oa) → val i oa = val j oa → oa < w.dep p → le (w.x i oa) (w.x j oa) := fun {oa ob} kk hs hv hd => by
          have hs2 : ∃ s, v0 ≤ s ∧ s < j ∧ w.setAt s oa := by
            obtain ⟨s, x, y, z⟩ := hs
            exact ⟨s, x, by omega, z⟩
          have g1 := h.small (o := oa) (o' := ob) k2 kk i1 i2 (by omega) hs (by rw [e1]; exact hd)
          have g2 := h.small (o := oa) (o' := ob) k2 kk j1 j2 (by omega) hs2 (by rw [e2]; exact hd)
          have hv' : (if oa < w.dep p then (w.x i oa).2 else 0) = if oa < w.dep p then (w.x j oa).2 else 0 := hv
          rw [if_pos hd, if_pos hd] at hv'
          exact ⟨by omega, .inl (g1.1.trans g2.1.symm)⟩
        rcases ko o o3 with rfl | rfl | rfl
        · obtain ⟨d, rfl⟩ : ∃ d, j = i + d := ⟨j - i, by omega⟩
          exact (h.mono i d hj (fun t h1 h2 => k2 t (by omega) (by omega)) (by rw [e2]; exact ho')).2.1
        · exact same ko z1 v1 ho'
        · exact same ko' z2 v2 ho'
      · rw [if_neg z2] at e
        by_cases z3 : P2 j
        · rw [if_pos z3] at e
          have := congrArg (fun q : Nat × Nat × Nat => q.1) e
          simp at this
        · rw [if_neg z3] at e
          have : i - v0 = j - v0 := congrArg (fun q : Nat × Nat × Nat => q.2.1) e
          omega
    · rw [if_neg z1] at e
      by_cases z3 : P1 j
      · rw [if_pos z3] at e
        by_cases z4 : P2 j
        · rw [if_pos z4] at e
          have := congrArg (fun q : Nat × Nat × Nat => q.1) e
          simp at this
        · rw [if_neg z4] at e
          have := congrArg (fun q : Nat × Nat × Nat => q.1) e
          simp at this
      · rw [if_neg z3] at e
        have : i - v0 = j - v0 := congrArg (fun q : Nat × Nat × Nat => q.2.1) e
        omega
/-- how long a way can be -/
theorem Way.Ok.short (h : w.Ok E ps) : w.N + 1 ≤ ps.length * ((E + 1) * ps.length + ((E + 1) * ps.length + (3 + 3 * ((E + 1) * ps.length) + 1) * (3 + 3 * ((E + 1) * ps.length) + 1))) := by
  classical
  have ch := fun p => h.per p
  let c : α → Nat → Nat × Nat × Nat := fun p => (ch p).choose
  have c1 : ∀ p t, t ≤ w.N → w.pl t = p → c p t ∈ codes ((E + 1) * ps.length) (3 + 3 * ((E + 1) * ps.length)) := fun p => (ch p).choose_spec.1
  have c2 : ∀ p i j, i < j → j ≤ w.N → w.pl i = p → w.pl j = p → c p i ≠ c p j := fun p => (ch p).choose_spec.2
  have z := pigeon (n := w.N + 1) (fun t => (w.pl t, c (w.pl t) t)) (ps.flatMap fun p => (codes ((E + 1) * ps.length) (3 + 3 * ((E + 1) * ps.length))).map fun q => (p, q)) (fun t ht => prod_mem (h.pls t (by omega)) (c1 _ t (by omega) rfl)) fun i j hij hj e => by
    have e1 : w.pl i = w.pl j := congrArg Prod.fst e
    have e2 : c (w.pl i) i = c (w.pl j) j := congrArg Prod.snd e
    rw [← e1] at e2
    exact c2 _ i j hij (by omega) rfl e1.symm e2
  rwa [prod_len, codes_len] at z
end PB

/-! a list of what waits: what is found behind one step or more from a start (k21's standings; any finite closure) -/
set_option autoImplicit true
namespace Clo
open Tv
variable {α : Type}
inductive R1 (nx : α → List α) (s : α) : α → Prop
  | one {y : α} : y ∈ nx s → R1 nx s y
  | go {x y : α} : R1 nx s x → y ∈ nx x → R1 nx s y
structure Wk (nx : α → List α) (s : α) (fs qs : List α) : Prop where
  nd : fs.Nodup
  cn : ∀ x ∈ fs, R1 nx s x
  sb : ∀ x ∈ qs, x = s ∨ x ∈ fs
  ln : qs.length ≤ fs.length + 1
  cl : ∀ x, x = s ∨ x ∈ fs → x ∈ qs ∨ ∀ y ∈ nx x, y ∈ fs
theorem Wk.start (nx : α → List α) (s : α) : Wk nx s [] [s] :=
  ⟨List.nodup_nil, (fun _ h => nomatch h), fun _ h => .inl (List.mem_singleton.mp h), Nat.le_refl _, fun x h => by
    rcases h with h | h
    · exact .inl (h ▸ List.mem_singleton.mpr rfl)
    · cases h⟩
theorem Wk.all {nx : α → List α} {s : α} {fs : List α} (w : Wk nx s fs []) (x : α) : x ∈ fs ↔ R1 nx s x := by
  have cl : ∀ x, x = s ∨ x ∈ fs → ∀ y ∈ nx x, y ∈ fs := fun x h => by
    rcases w.cl x h with z | z
    · cases z
    · exact z
  refine ⟨w.cn x, fun c => ?_⟩
  induction c with
  | one h => exact cl s (.inl rfl) _ h
  | go _ h ih => exact cl _ (.inr ih) _ h
structure Gk (nx : α → List α) (s e : α) (ds fs qs : List α) : Prop where
  nd : fs.Nodup
  cn : ∀ x ∈ fs, R1 nx s x
  em : e = s ∨ e ∈ fs
  sb : ∀ x ∈ qs, x = s ∨ x ∈ fs
  ln : qs.length ≤ fs.length
  cl : ∀ x, x = s ∨ x ∈ fs → x ∈ qs ∨ x = e ∨ ∀ y ∈ nx x, y ∈ fs
  dn : ∀ y ∈ ds, y ∈ fs
theorem Wk.go {nx : α → List α} {s e : α} {fs qs : List α} (w : Wk nx s fs (qs ++ [e])) : Gk nx s e [] fs qs :=
  ⟨w.nd, w.cn, w.sb e (by simp), fun x hx => w.sb x (List.mem_append_left _ hx), by have := w.ln; rw [List.length_append, List.length_singleton] at this; omega, fun x hx => by
    rcases w.cl x hx with z | z
    · rcases List.mem_append.mp z with z | z
      · exact .inl z
      · exact .inr (.inl (List.mem_singleton.mp z))
    · exact .inr (.inr z), fun i hi => nomatch hi⟩
theorem Gk.fin {nx : α → List α} {s e : α} {fs qs : List α} (g : Gk nx s e (nx e) fs qs) : Wk nx s fs qs :=
  ⟨g.nd, g.cn, g.sb, Nat.le_succ_of_le g.ln, fun x hx => by
    rcases g.cl x hx with z | z | z
    · exact .inl z
    · subst z
      exact .inr g.dn
    · exact .inr z⟩
theorem Gk.skip {nx : α → List α} {s e y : α} {ds fs qs : List α} (g : Gk nx s e ds fs qs) (h : y ∈ fs) : Gk nx s e (ds ++ [y]) fs qs :=
  ⟨g.nd, g.cn, g.em, g.sb, g.ln, g.cl, fun j hj => by
    rcases List.mem_append.mp hj with z | z
    · exact g.dn j z
    · rw [List.mem_singleton.mp z]
      exact h⟩
theorem Gk.add {nx : α → List α} {s e y : α} {ds fs qs : List α} (g : Gk nx s e ds fs qs) (hy : y ∈ nx e) (hn : y ∉ fs) : Gk nx s e (ds ++ [y]) (fs ++ [y]) (qs ++ [y]) where
  nd := List.nodup_append.mpr ⟨g.nd, by simp, fun x hx z hz e => hn (by rw [List.mem_singleton.mp hz] at e; exact e ▸ hx)⟩
  cn := fun x hx => by
    rcases List.mem_append.mp hx with z | z
    · exact g.cn x z
    · rw [List.mem_singleton.mp z]
      rcases g.em with m | m
      · exact .one (m ▸ hy)
      · exact .go (g.cn e m) hy
  em := g.em.imp id (List.mem_append_left _)
  sb := fun x hx => by
    rcases List.mem_append.mp hx with z | z
    · exact (g.sb x z).imp id (List.mem_append_left _)
    · exact .inr (List.mem_append_right _ z)
  ln := by rw [List.length_append, List.length_append]; exact Nat.add_le_add_right g.ln _
  cl := fun x hx => by
    have : (x = s ∨ x ∈ fs) ∨ x = y := by
      rcases hx with z | z
      · exact .inl (.inl z)
      · rcases List.mem_append.mp z with z | z
        · exact .inl (.inr z)
        · exact .inr (List.mem_singleton.mp z)
    rcases this with z | z
    · rcases g.cl x z with z | z | z
      · exact .inl (List.mem_append_left _ z)
      · exact .inr (.inl z)
      · exact .inr (.inr fun y' h => List.mem_append_left _ (z y' h))
    · exact .inl (by rw [z]; exact List.mem_append_right _ (List.mem_singleton.mpr rfl))
  dn := fun j hj => by
    rcases List.mem_append.mp hj with z | z
    · exact List.mem_append_left _ (g.dn j z)
    · exact List.mem_append_right _ z
/-- what is found is no more than what there is -/
theorem Wk.few {nx : α → List α} {s : α} {fs qs : List α} (w : Wk nx s fs qs) (as : List α) (h : ∀ x, R1 nx s x → x ∈ as) : fs.length ≤ as.length := by
  classical
  exact PB.pigeon (fun i => fs.getD i s) as (fun i hi => by
    rw [List.getD_eq_getElem?_getD, List.getElem?_eq_getElem hi]
    exact h _ (w.cn _ (List.getElem_mem hi))) (fun i j hij hj e => by
    rw [List.getD_eq_getElem?_getD, List.getElem?_eq_getElem (Nat.lt_trans hij hj), List.getD_eq_getElem?_getD, List.getElem?_eq_getElem hj] at e
    have := (List.pairwise_iff_getElem.mp w.nd) i j (Nat.lt_trans hij hj) hj hij
    exact this e)
theorem Gk.few {nx : α → List α} {s e : α} {ds fs qs : List α} (w : Gk nx s e ds fs qs) (as : List α) (h : ∀ x, R1 nx s x → x ∈ as) : fs.length ≤ as.length :=
  Wk.few (nx := nx) (s := s) (qs := fs ++ [s]) ⟨w.nd, w.cn, fun x hx => by
    rcases List.mem_append.mp hx with z | z
    · exact .inr z
    · exact .inl (List.mem_singleton.mp z), by simp, fun x hx => .inl (by
      rcases hx with z | z
      · rw [z]; simp
      · exact List.mem_append_left _ z)⟩ as h
end Clo

/-! the tables' search: a list of what waits, ways kept unless they are above a known one; of sound lines -/
set_option autoImplicit true
namespace TB
abbrev Sh := List (Bool × Nat)
variable {α : Type} [DecidableEq α]
abbrev L (α : Type) := α × α × Sh
def jn (a b : Sh) : Sh := b.mapIdx fun i w => if w.1 = true then ((a.getD i (false, 0)).1, (a.getD i (false, 0)).2 + w.2) else w
theorem jn_len (a b : Sh) : (jn a b).length = b.length := by simp [jn]
theorem jn_get {a b : Sh} {i : Nat} {w : Bool × Nat} (h : b[i]? = some w) : (jn a b)[i]? = some (if w.1 = true then ((a.getD i (false, 0)).1, (a.getD i (false, 0)).2 + w.2) else w) := by simp [jn, h]
def wle (a b : Bool × Nat) : Bool := decide (a.2 ≤ b.2) && (decide (a.1 = b.1) || !a.1)
theorem wle_iff (a b : Bool × Nat) : wle a b = true ↔ PB.le a b := by
  unfold wle PB.le
  rw [Bool.and_eq_true, decide_eq_true_eq, Bool.or_eq_true, decide_eq_true_eq, Bool.not_eq_true']
def blB (a b : Sh) : Bool := decide (a.length = b.length) && (a.zip b).all fun p => wle p.1 p.2
theorem blB_iff {a b : Sh} : blB a b = true ↔ a.length = b.length ∧ ∀ i, i < a.length → PB.le (a.getD i (false, 0)) (b.getD i (false, 0)) := by
  unfold blB
  rw [Bool.and_eq_true, decide_eq_true_eq]
  constructor
  · rintro ⟨h, g⟩
    refine ⟨h, fun i hi => ?_⟩
    have hb : i < b.length := by omega
    have := List.all_eq_true.mp g (a[i], b[i]) (List.mem_iff_getElem.mpr ⟨i, by simp; omega, by simp⟩)
    rw [List.getD_eq_getElem?_getD, List.getD_eq_getElem?_getD, List.getElem?_eq_getElem hi, List.getElem?_eq_getElem hb]
    exact (wle_iff _ _).mp this
  · rintro ⟨h, g⟩
    refine ⟨h, List.all_eq_true.mpr fun p hp => ?_⟩
    obtain ⟨i, hi, e⟩ := List.mem_iff_getElem.mp hp
    have ha : i < a.length := by simp at hi; omega
    have hb : i < b.length := by omega
    have z := g i ha
    rw [List.getD_eq_getElem?_getD, List.getD_eq_getElem?_getD, List.getElem?_eq_getElem ha, List.getElem?_eq_getElem hb] at z
    rw [← e, List.getElem_zip]
    exact (wle_iff _ _).mpr z
theorem blB_refl (a : Sh) : blB a a = true := blB_iff.mpr ⟨rfl, fun _ _ => PB.le_refl _⟩
theorem blB_trans {a b c : Sh} (h : blB a b = true) (g : blB b c = true) : blB a c = true := by
  rw [blB_iff] at h g ⊢
  exact ⟨h.1.trans g.1, fun i hi => PB.le_trans (h.2 i hi) (g.2 i (by omega))⟩
theorem blB_no {a b : Sh} (hl : a.length = b.length) (h : blB a b = false) : ∃ o, o < a.length ∧ ¬ PB.le (a.getD o (false, 0)) (b.getD o (false, 0)) := by
  refine Classical.byContradiction fun z => ?_
  rw [blB_iff.mpr ⟨hl, fun i hi => Classical.byContradiction fun y => z ⟨i, hi, y⟩⟩] at h
  cases h
/-- lines one behind the other -/
def Ch (ls : List (L α)) : α → List (L α) → α → Prop
  | p, [], q => p = q
  | p, l :: w, q => l ∈ ls ∧ l.1 = p ∧ Ch ls l.2.1 w q
theorem Ch.app {ls : List (L α)} : ∀ {w v : List (L α)} {p q r : α}, Ch ls p w q → Ch ls q v r → Ch ls p (w ++ v) r
  | [], v, p, q, r, h, g => by
    have e : p = q := h
    rw [e]
    exact g
  | _ :: w, v, p, q, r, h, g => ⟨h.1, h.2.1, Ch.app h.2.2 g⟩
theorem Ch.split {ls : List (L α)} : ∀ {w v : List (L α)} {p r : α}, Ch ls p (w ++ v) r → ∃ q, Ch ls p w q ∧ Ch ls q v r
  | [], v, p, r, h => ⟨p, rfl, h⟩
  | _ :: w, v, p, r, h => let ⟨q, a, b⟩ := Ch.split (w := w) (v := v) h.2.2; ⟨q, ⟨h.1, h.2.1, a⟩, b⟩
theorem Ch.mem {ls : List (L α)} : ∀ {w : List (L α)} {p q : α}, Ch ls p w q → ∀ l ∈ w, l ∈ ls
  | [], _, _, _, _, h => nomatch h
  | _ :: w, _, _, h, l, hl => (List.mem_cons.mp hl).elim (fun e => e ▸ h.1) (Ch.mem h.2.2 l)
theorem Ch.to {ls ks : List (L α)} : ∀ {w : List (L α)} {p q : α}, Ch ls p w q → (∀ l ∈ w, l ∈ ks) → Ch ks p w q
  | [], _, _, h, _ => h
  | _ :: w, _, _, h, g => ⟨g _ List.mem_cons_self, h.2.1, h.2.2.to fun l hl => g l (List.mem_cons_of_mem _ hl)⟩
/-- some part is never set along these lines, and raised by one -/
def Rises (k : Nat) (w : List (L α)) : Prop := (∀ l ∈ w, ∃ m, l.2.2[k]? = some (true, m)) ∧ ∃ l ∈ w, ∃ m, 0 < m ∧ l.2.2[k]? = some (true, m)
def Snd (ls : List (L α)) : Prop := ∀ p w, w ≠ [] → Ch ls p w p → ∃ k, Rises k w
theorem Rises.perm {k : Nat} {w v : List (L α)} (h : Rises k w) (e : ∀ l, l ∈ v ↔ l ∈ w) : Rises k v :=
  ⟨fun l hl => h.1 l ((e l).mp hl), let ⟨l, a, b⟩ := h.2; ⟨l, (e l).mpr a, b⟩⟩
theorem Snd.nil : Snd (α := α) [] := fun p w hw h => by
  cases w with
  | nil => exact absurd rfl hw
  | cons l w => cases h.1
/-- a line more -/
theorem Snd.more {ls : List (L α)} {n : L α} (h : Snd ls) (g : ∀ w, w ≠ [] → Ch (ls ++ [n]) n.1 w n.1 → ∃ k, Rises k w) : Snd (ls ++ [n]) := fun p w hw c => by
  by_cases z : ∀ l ∈ w, l ∈ ls
  · exact h p w hw (c.to z)
  · have hn : n ∈ w := by
      refine Classical.byContradiction fun y => z fun l hl => ?_
      rcases List.mem_append.mp (c.mem l hl) with x | x
      · exact x
      · rw [List.mem_singleton.mp x] at hl
        exact absurd hl y
    obtain ⟨a, b, rfl⟩ := List.append_of_mem hn
    obtain ⟨q, c1, c2⟩ := c.split
    have eq : n.1 = q := c2.2.1
    have c3 : Ch (ls ++ [n]) n.1 (n :: b ++ a) n.1 := Ch.app (q := p) (by rw [eq]; exact c2) (by rw [eq]; exact c1)
    obtain ⟨k, hk⟩ := g (n :: b ++ a) (by simp) c3
    exact ⟨k, hk.perm fun l => by rw [List.mem_append, List.mem_append]; exact Or.comm⟩
/-! ### ways by the numbers of their lines -/
def step (ls : List (L α)) (a : α × Sh) (k : Nat) : α × Sh := match ls[k]? with | some l => (l.2.1, jn a.2 l.2.2) | none => a
def nd (ls : List (L α)) (s : α × Sh) (w : List Nat) : α × Sh := w.foldl (step ls) s
theorem nd_snoc (ls : List (L α)) (s : α × Sh) (w : List Nat) (k : Nat) : nd ls s (w ++ [k]) = step ls (nd ls s w) k := by rw [nd, List.foldl_append]; rfl
def Pth (ls : List (L α)) (s : α × Sh) (w : List Nat) : Prop := ∀ t, t < w.length → ∃ l, ls[w.getD t 0]? = some l ∧ l.1 = (nd ls s (w.take t)).1
theorem take_getD {w : List Nat} {t : Nat} (h : t < w.length) : w.take (t + 1) = w.take t ++ [w.getD t 0] := by
  rw [List.take_add_one, List.getElem?_eq_getElem h, List.getD_eq_getElem?_getD, List.getElem?_eq_getElem h]
  rfl
theorem Pth.nil (ls : List (L α)) (s : α × Sh) : Pth ls s [] := fun t h => absurd h (Nat.not_lt_zero _)
theorem Pth.snoc {ls : List (L α)} {s : α × Sh} {w : List Nat} {k : Nat} {l : L α} (h : Pth ls s w) (hl : ls[k]? = some l) (e : l.1 = (nd ls s w).1) : Pth ls s (w ++ [k]) := fun t ht => by
  rw [List.length_append, List.length_singleton] at ht
  by_cases z : t < w.length
  · obtain ⟨l', a, b⟩ := h t z
    refine ⟨l', ?_, ?_⟩
    · rw [List.getD_eq_getElem?_getD, List.getElem?_append_left z, ← List.getD_eq_getElem?_getD]
      exact a
    · rw [List.take_append_of_le_length (by omega)]
      exact b
  · obtain rfl : t = w.length := by omega
    refine ⟨l, ?_, ?_⟩
    · rw [List.getD_eq_getElem?_getD, List.getElem?_append_right (Nat.le_refl _), Nat.sub_self]
      exact hl
    · rw [List.take_append_of_le_length (Nat.le_refl _), List.take_length]
      exact e
theorem Pth.at {ls : List (L α)} {s : α × Sh} {w : List Nat} (h : Pth ls s w) {t : Nat} (ht : t < w.length) : ∃ l, ls[w.getD t 0]? = some l ∧ l.1 = (nd ls s (w.take t)).1 ∧ nd ls s (w.take (t + 1)) = (l.2.1, jn (nd ls s (w.take t)).2 l.2.2) := by
  obtain ⟨l, a, b⟩ := h t ht
  refine ⟨l, a, b, ?_⟩
  rw [take_getD ht, nd_snoc, step, a]
/-- the lines of a stretch -/
theorem Pth.ch {ls : List (L α)} {s : α × Sh} {w : List Nat} (h : Pth ls s w) (i : Nat) : ∀ d, i + d ≤ w.length → ∃ v, Ch ls (nd ls s (w.take i)).1 v (nd ls s (w.take (i + d))).1 ∧ v.length = d ∧ ∀ t, i ≤ t → t < i + d → ∃ l ∈ v, ls[w.getD t 0]? = some l
  | 0, _ => ⟨[], rfl, rfl, fun t h1 h2 => by omega⟩
  | d + 1, hd => by
    obtain ⟨v, a, b, c⟩ := h.ch i d (by omega)
    obtain ⟨l, e1, e2, e3⟩ := h.at (t := i + d) (by omega)
    refine ⟨v ++ [l], a.app ⟨List.mem_of_getElem? e1, e2, ?_⟩, by simp [b], fun t h1 h2 => ?_⟩
    · show l.2.1 = (nd ls s (w.take (i + d + 1))).1
      rw [e3]
    · by_cases z : t < i + d
      · obtain ⟨l', y1, y2⟩ := c t h1 z
        exact ⟨l', List.mem_append_left _ y1, y2⟩
      · obtain rfl : t = i + d := by omega
        exact ⟨l, by simp, e1⟩
/-- what the lines of a plan keep -/
structure LsOk (ls : List (L α)) (ps : List α) (dep : α → Nat) : Prop where
  beg : ∀ l ∈ ls, l.1 ∈ ps
  fin : ∀ l ∈ ls, l.2.1 ∈ ps
  len : ∀ l ∈ ls, l.2.2.length = dep l.2.1
  few : ∀ l ∈ ls, ∀ i w, l.2.2[i]? = some w → w.2 ≤ 3 ∧ (w.1 = true → i < dep l.1)
  dp : ∀ p ∈ ps, dep p ≤ 3
theorem Pth.nd_ok {ls : List (L α)} {ps : List α} {dep : α → Nat} {s : α × Sh} (ok : LsOk ls ps dep) (hs : s.1 ∈ ps ∧ s.2.length = dep s.1) {w : List Nat} (h : Pth ls s w) : ∀ t, t ≤ w.length → (nd ls s (w.take t)).1 ∈ ps ∧ (nd ls s (w.take t)).2.length = dep (nd ls s (w.take t)).1
  | 0, _ => by rw [List.take_zero]; exact hs
  | t + 1, ht => by
    obtain ⟨l, e1, _, e3⟩ := h.at (t := t) ht
    rw [e3]
    exact ⟨ok.fin l (List.mem_of_getElem? e1), by rw [jn_len]; exact ok.len l (List.mem_of_getElem? e1)⟩
theorem Pth.nd_low {ls : List (L α)} {ps : List α} {dep : α → Nat} {s : α × Sh} (ok : LsOk ls ps dep) (hs : ∀ x ∈ s.2, x.2 = 0) {w : List Nat} (h : Pth ls s w) : ∀ t, t ≤ w.length → ∀ x ∈ (nd ls s (w.take t)).2, x.2 ≤ 3 * t
  | 0, _ => by
    rw [List.take_zero]
    intro x hx
    have := hs x hx
    omega
  | t + 1, ht => by
    have ih := h.nd_low ok hs t (by omega)
    obtain ⟨l, e1, _, e3⟩ := h.at (t := t) ht
    rw [e3]
    intro x hx
    obtain ⟨i, hi⟩ := List.mem_iff_getElem?.mp hx
    have hil : i < l.2.2.length := by
      have := (List.getElem?_eq_some_iff.mp hi).1
      rwa [jn_len] at this
    have hw : l.2.2[i]? = some l.2.2[i] := List.getElem?_eq_getElem hil
    have f := (ok.few l (List.mem_of_getElem? e1) i _ hw).1
    rw [jn_get hw] at hi
    have e := (Option.some.inj hi).symm
    rw [e]
    split
    · show (((nd ls s (w.take t)).2.getD i (false, 0)).2 + _ : Nat) ≤ _
      have : ((nd ls s (w.take t)).2.getD i (false, 0)).2 ≤ 3 * t := by
        rw [List.getD_eq_getElem?_getD]
        cases z : (nd ls s (w.take t)).2[i]? with
        | none => exact Nat.zero_le _
        | some y => exact ih y (List.mem_of_getElem? z)
      omega
    · omega
def Dmax (P E : Nat) : Nat := P * ((E + 1) * P + ((E + 1) * P + (3 + 3 * ((E + 1) * P) + 1) * (3 + 3 * ((E + 1) * P) + 1)))
/-- how long a way is whose nodes ahead of its last line are none above an earlier one -/
theorem Pth.short {ls : List (L α)} {ps : List α} {dep : α → Nat} {s : α × Sh} (ok : LsOk ls ps dep) (hs : s.1 ∈ ps ∧ s.2.length = dep s.1) (sn : Snd ls) {w : List Nat} (h : Pth ls s w)
    (bad : ∀ i j, i < j → j < w.length → (nd ls s (w.take i)).1 = (nd ls s (w.take j)).1 → blB (nd ls s (w.take i)).2 (nd ls s (w.take j)).2 = false) : w.length ≤ Dmax ps.length ls.length := by
  by_cases hw : w.length = 0
  · rw [hw]; exact Nat.zero_le _
  let W : PB.Way α := { N := w.length - 1, pl := fun t => (nd ls s (w.take t)).1, dep := dep, x := fun t o => (nd ls s (w.take t)).2.getD o (false, 0), st := fun t o => match ls[w.getD t 0]? with | some l => l.2.2.getD o (false, 0) | none => (false, 0), ln := fun t => w.getD t 0 }
  have nok := h.nd_ok ok hs
  have tel : ∀ t, t < w.length → ∃ l, l ∈ ls ∧ ls[w.getD t 0]? = some l ∧ l.1 = W.pl t ∧ W.pl (t + 1) = l.2.1 ∧ (∀ o, W.st t o = l.2.2.getD o (false, 0)) ∧ nd ls s (w.take (t + 1)) = (l.2.1, jn (nd ls s (w.take t)).2 l.2.2) := fun t ht => by
    obtain ⟨l, e1, e2, e3⟩ := h.at ht
    refine ⟨l, List.mem_of_getElem? e1, e1, e2, ?_, fun o => ?_, e3⟩
    · show (nd ls s (w.take (t + 1))).1 = _
      rw [e3]
    · show (match ls[w.getD t 0]? with | some l => l.2.2.getD o (false, 0) | none => (false, 0)) = _
      rw [e1]
  have atO : ∀ t, t < w.length → ∀ l, l ∈ ls → W.pl (t + 1) = l.2.1 → ∀ o, o < dep (W.pl (t + 1)) → ∃ x, l.2.2[o]? = some x ∧ l.2.2.getD o (false, 0) = x := fun t ht l hl e o ho => by
    have hol : o < l.2.2.length := by rw [ok.len l hl, ← e]; exact ho
    exact ⟨l.2.2[o], List.getElem?_eq_getElem hol, by rw [List.getD_eq_getElem?_getD, List.getElem?_eq_getElem hol]; rfl⟩
  have W_ok : W.Ok ls.length ps := by
    refine ⟨?_, ?_, ?_, ?_, ?_, ?_, ?_, ?_, ?_⟩
    · intro t ht o ho
      have ht' : t < w.length := by have : t < w.length - 1 := ht; omega
      obtain ⟨l, hl, e1, e2, e3, e4, e5⟩ := tel t ht'
      obtain ⟨x, hx, hg⟩ := atO t ht' l hl e3 o ho
      show (nd ls s (w.take (t + 1))).2.getD o (false, 0) = _
      rw [e5, e4 o, hg, List.getD_eq_getElem?_getD, jn_get hx]
      show (if x.1 = true then _ else x) = _
      by_cases z : x.1 = true
      · rw [if_pos z, if_pos z]
      · rw [if_neg z, if_neg z]
        rw [Bool.not_eq_true] at z
        rw [← z]
    · intro t ht o ho hk
      have ht' : t < w.length := by have : t < w.length - 1 := ht; omega
      obtain ⟨l, hl, e1, e2, e3, e4, e5⟩ := tel t ht'
      obtain ⟨x, hx, hg⟩ := atO t ht' l hl e3 o ho
      rw [e4 o, hg] at hk
      have := (ok.few l hl o x hx).2 hk
      rw [e2] at this
      exact this
    · intro t ht o ho
      have ht' : t < w.length := by have : t < w.length - 1 := ht; omega
      obtain ⟨l, hl, e1, e2, e3, e4, e5⟩ := tel t ht'
      obtain ⟨x, hx, hg⟩ := atO t ht' l hl e3 o ho
      rw [e4 o, hg]
      exact (ok.few l hl o x hx).1
    · intro t ht
      have ht' : t < w.length := by have : t < w.length - 1 := ht; omega
      obtain ⟨l, hl, e1, _⟩ := tel t ht'
      exact (List.getElem?_eq_some_iff.mp e1).1
    · intro a b ha hb e
      have ha' : a < w.length := by have : a < w.length - 1 := ha; omega
      have hb' : b < w.length := by have : b < w.length - 1 := hb; omega
      obtain ⟨l, hl, e1, e2, e3, e4, e5⟩ := tel a ha'
      obtain ⟨l', hl', e1', e2', e3', e4', e5'⟩ := tel b hb'
      have el : l = l' := by
        have e' : w.getD a 0 = w.getD b 0 := e
        rw [e', e1'] at e1
        exact (Option.some.inj e1).symm
      subst el
      exact ⟨e3.trans e3'.symm, fun o => (e4 o).trans (e4' o).symm⟩
    · intro t ht
      exact (nok t (by have : t ≤ w.length - 1 := ht; omega)).1
    · intro t ht
      exact ok.dp _ (nok t (by have : t ≤ w.length - 1 := ht; omega)).1
    · intro i j hij hj e
      have hj' : j < w.length := by have : j ≤ w.length - 1 := hj; omega
      have n1 := (nok i (by omega)).2
      have n2 := (nok j (by omega)).2
      have e' : (nd ls s (w.take i)).1 = (nd ls s (w.take j)).1 := e
      obtain ⟨o, ho, hn⟩ := blB_no (by rw [n1, n2, e']) (bad i j hij hj' e')
      refine ⟨o, ?_, hn⟩
      rw [n1] at ho
      exact ho
    · intro i j hij hj e
      have hj' : j < w.length := by have : j ≤ w.length - 1 := hj; omega
      obtain ⟨d, rfl⟩ : ∃ d, j = i + d := ⟨j - i, by omega⟩
      obtain ⟨v, c, hv, hin⟩ := h.ch i d (by omega)
      have e' : (nd ls s (w.take i)).1 = (nd ls s (w.take (i + d))).1 := e
      have hv0 : v ≠ [] := fun z => by rw [z] at hv; simp at hv; omega
      rw [← e'] at c
      obtain ⟨k, r1, _⟩ := sn _ v hv0 c
      have kp : ∀ t, i ≤ t → t < i + d → W.st t k = (true, (W.st t k).2) ∧ k < dep (W.pl t) := fun t h1 h2 => by
        obtain ⟨l, hl, e1⟩ := hin t h1 h2
        obtain ⟨m, hm⟩ := r1 l hl
        obtain ⟨l', hl', e1', e2', e3', e4', _⟩ := tel t (by omega)
        rw [e1] at e1'
        obtain rfl : l = l' := Option.some.inj e1'
        have g : W.st t k = (true, m) := by rw [e4' k, List.getD_eq_getElem?_getD, hm]; rfl
        refine ⟨by rw [g], ?_⟩
        rw [← e2']
        exact (ok.few l hl' k _ hm).2 rfl
      refine ⟨k, (kp i (Nat.le_refl _) hij).2, fun t h1 h2 hs => ?_⟩
      have g := (kp t h1 h2).1
      have y := hs.2
      rw [g] at y
      cases y
  have z := W_ok.short
  have e : W.N + 1 = w.length := by show w.length - 1 + 1 = _; omega
  rw [e] at z
  exact z
def isFrom (ls : List (L α)) (p : α) (k : Nat) : Bool := match ls[k]? with | some l => decide (l.1 = p) | none => false
def kidsTo (ls : List (L α)) (p : α) (w : List Nat) (i : Nat) : List (List Nat) := ((List.range i).filter (isFrom ls p)).map fun k => w ++ [k]
theorem kidsTo_zero (ls : List (L α)) (p : α) (w : List Nat) : kidsTo ls p w 0 = [] := rfl
theorem kidsTo_succ (ls : List (L α)) (p : α) (w : List Nat) (i : Nat) : kidsTo ls p w (i + 1) = kidsTo ls p w i ++ if isFrom ls p i = true then [w ++ [i]] else [] := by
  unfold kidsTo
  rw [List.range_succ, List.filter_append, List.map_append]
  congr 1
  by_cases z : isFrom ls p i = true
  · rw [if_pos z]; simp [z]
  · rw [if_neg z]; simp [z]
theorem kidsTo_len (ls : List (L α)) (p : α) (w : List Nat) (i : Nat) : (kidsTo ls p w i).length ≤ i := by
  unfold kidsTo
  rw [List.length_map]
  exact Nat.le_trans (List.length_filter_le _ _) (by simp)
theorem kidsTo_mem {ls : List (L α)} {p : α} {w v : List Nat} {i : Nat} (h : v ∈ kidsTo ls p w i) : ∃ k l, v = w ++ [k] ∧ ls[k]? = some l ∧ l.1 = p := by
  obtain ⟨k, hk, e⟩ := List.mem_map.mp h
  have z := (List.mem_filter.mp hk).2
  unfold isFrom at z
  cases y : ls[k]? with
  | none => rw [y] at z; cases z
  | some l =>
    rw [y] at z
    exact ⟨k, l, e.symm, y, of_decide_eq_true z⟩
theorem flen_split {β : Type} (xs : List β) (f : β → Bool) : xs.length = (xs.filter f).length + (xs.filter fun x => !f x).length := by
  induction xs with
  | nil => rfl
  | cons x xs ih => cases z : f x <;> simp [z, ih] <;> omega
theorem cnt_len {E : Nat} : ∀ (D : Nat) (st : List (List Nat)), (∀ w ∈ st, w.length ≤ D) → (∀ d, (st.filter fun w => decide (w.length = d)).length ≤ E) → st.length ≤ E * (D + 1)
  | 0, st, h, g => by
    have e : (st.filter fun w => decide (w.length = 0)) = st := List.filter_eq_self.mpr fun w hw => decide_eq_true (by have := h w hw; omega)
    have z := g 0
    rw [e] at z
    omega
  | D + 1, st, h, g => by
    have z := flen_split st fun w => decide (w.length = D + 1)
    have a := g (D + 1)
    have b := cnt_len D (st.filter fun w => !decide (w.length = D + 1)) (fun w hw => by
      have h1 := List.mem_filter.mp hw
      have h2 := h w h1.1
      have h3 := h1.2
      rw [Bool.not_eq_true', decide_eq_false_iff_not] at h3
      omega) (fun d => Nat.le_trans (List.Sublist.length_le (List.Sublist.filter _ List.filter_sublist)) (g d))
    rw [Nat.mul_add E (D + 1) 1]
    omega
/-- all lists of up to n over xs -/
def upto {β : Type} (xs : List β) : Nat → List (List β)
  | 0 => [[]]
  | n + 1 => [] :: ((upto xs n).flatMap fun s => xs.map fun x => x :: s)
theorem upto_mem {β : Type} {xs : List β} : ∀ (n : Nat) (s : List β), s.length ≤ n → (∀ x ∈ s, x ∈ xs) → s ∈ upto xs n
  | 0, [], _, _ => List.mem_singleton.mpr rfl
  | 0, _ :: _, h, _ => absurd h (by simp)
  | _ + 1, [], _, _ => List.mem_cons_self
  | n + 1, x :: s, h, g => List.mem_cons_of_mem _ (List.mem_flatMap.mpr ⟨s, upto_mem n s (by simpa using h) (fun k hk => g k (List.mem_cons_of_mem _ hk)), List.mem_map.mpr ⟨x, g x List.mem_cons_self, rfl⟩⟩)
def allN (ps : List α) (D : Nat) : List (α × Sh) := ps.flatMap fun p => (upto ((List.range (3 * D + 1)).flatMap fun n => [(true, n), (false, n)]) 3).map fun s => (p, s)
structure Tb (ls : List (L α)) (ps : List α) (s : α × Sh) (acc : List (α × Sh)) (kn : α → List Sh) (st : List (List Nat)) : Prop where
  pth : ∀ w ∈ st, Pth ls s w
  bad : ∀ w ∈ st, ∀ i j, i < j → j < w.length → (nd ls s (w.take i)).1 = (nd ls s (w.take j)).1 → blB (nd ls s (w.take i)).2 (nd ls s (w.take j)).2 = false
  pre : ∀ w ∈ st, ∀ t, t < w.length → nd ls s (w.take t) ∈ acc
  cov : ∀ a ∈ acc, ∃ k ∈ kn a.1, blB k a.2 = true
  nod : acc.Nodup
  rch : ∀ a ∈ acc, ∃ w, Pth ls s w ∧ a = nd ls s w ∧ w.length ≤ Dmax ps.length ls.length
  asc : st.Pairwise fun a b => a.length ≤ b.length
  cnt : ∀ d, (st.filter fun w => decide (w.length = d)).length ≤ ls.length + 1
  knr : ∀ p, ∀ k ∈ kn p, (p, k) ∈ acc
section
variable {ls : List (L α)} {ps : List α} {s : α × Sh} {acc : List (α × Sh)} {kn : α → List Sh} {st : List (List Nat)} {w : List Nat} {dep : α → Nat}
theorem Tb.start (ls : List (L α)) (ps : List α) (s : α × Sh) : Tb ls ps s [] (fun _ => []) [[]] where
  pth := fun w hw => by rw [List.mem_singleton.mp hw]; exact .nil ls s
  bad := fun w hw i j _ hj => by rw [List.mem_singleton.mp hw] at hj; exact absurd hj (Nat.not_lt_zero _)
  pre := fun w hw t ht => by rw [List.mem_singleton.mp hw] at ht; exact absurd ht (Nat.not_lt_zero _)
  cov := fun a h => nomatch h
  nod := List.nodup_nil
  rch := fun a h => nomatch h
  asc := List.pairwise_singleton _ _
  cnt := fun d => Nat.le_trans (List.length_filter_le _ _) (by simp)
  knr := fun p k h => nomatch h
theorem Tb.skip (h : Tb ls ps s acc kn (st ++ [w])) : Tb ls ps s acc kn st where
  pth := fun v hv => h.pth v (List.mem_append_left _ hv)
  bad := fun v hv => h.bad v (List.mem_append_left _ hv)
  pre := fun v hv => h.pre v (List.mem_append_left _ hv)
  cov := h.cov
  nod := h.nod
  rch := h.rch
  asc := (List.pairwise_append.mp h.asc).1
  cnt := fun d => Nat.le_trans (List.Sublist.length_le (List.Sublist.filter _ (List.sublist_append_left st [w]))) (h.cnt d)
  knr := h.knr
theorem Tb.short (ok : LsOk ls ps dep) (hs : s.1 ∈ ps ∧ s.2.length = dep s.1) (sn : Snd ls) (h : Tb ls ps s acc kn st) : ∀ w ∈ st, w.length ≤ Dmax ps.length ls.length := fun w hw => (h.pth w hw).short ok hs sn (h.bad w hw)
theorem Tb.len (ok : LsOk ls ps dep) (hs : s.1 ∈ ps ∧ s.2.length = dep s.1) (sn : Snd ls) (h : Tb ls ps s acc kn st) : st.length ≤ (ls.length + 1) * (Dmax ps.length ls.length + 1) := cnt_len _ st (h.short ok hs sn) h.cnt
theorem Tb.few (ok : LsOk ls ps dep) (hs : s.1 ∈ ps ∧ s.2.length = dep s.1) (h0 : ∀ x ∈ s.2, x.2 = 0) (h : Tb ls ps s acc kn st) : acc.length ≤ (allN ps (Dmax ps.length ls.length)).length := by
  refine Tv.mem_len h.nod fun a ha => ?_
  obtain ⟨v, hp, e, hv⟩ := h.rch a ha
  have n1 := hp.nd_ok ok hs v.length (Nat.le_refl _)
  have n2 := hp.nd_low ok h0 v.length (Nat.le_refl _)
  rw [List.take_length, ← e] at n1 n2
  have : a = (a.1, a.2) := rfl
  rw [this]
  refine PB.prod_mem n1.1 (upto_mem 3 a.2 (by rw [n1.2]; exact ok.dp _ n1.1) fun x hx => ?_)
  have b := n2 x hx
  refine List.mem_flatMap.mpr ⟨x.2, List.mem_range.mpr (by omega), ?_⟩
  obtain ⟨c, m⟩ := x
  cases c <;> simp
/-- the known ones of a place, one more -/
def put1 (kn : α → List Sh) (p : α) (way : Sh) : α → List Sh := fun q => if q = p then ((kn p).filter fun k => !blB way k) ++ [way] else kn q
theorem Tb.keep (ok : LsOk ls ps dep) (hs : s.1 ∈ ps ∧ s.2.length = dep s.1) (sn : Snd ls) (h : Tb ls ps s acc kn (st ++ [w])) (no : ∀ k ∈ kn (nd ls s w).1, blB k (nd ls s w).2 = false) :
    Tb ls ps s (acc ++ [nd ls s w]) (put1 kn (nd ls s w).1 (nd ls s w).2) (st ++ kidsTo ls (nd ls s w).1 w ls.length) := by
  have hw : w ∈ st ++ [w] := by simp
  have sh := h.short ok hs sn w hw
  have old : ∀ v ∈ st, v ∈ st ++ [w] := fun v hv => List.mem_append_left _ hv
  have low : ∀ v ∈ st, v.length ≤ w.length := fun v hv => (List.pairwise_append.mp h.asc).2.2 v hv w (by simp)
  refine ⟨?_, ?_, ?_, ?_, ?_, ?_, ?_, ?_, ?_⟩
  · intro v hv
    rcases List.mem_append.mp hv with hv | hv
    · exact h.pth v (old v hv)
    · obtain ⟨k, l, rfl, hl, e⟩ := kidsTo_mem hv
      exact (h.pth w hw).snoc hl e
  · intro v hv i j hij hj e
    rcases List.mem_append.mp hv with hv | hv
    · exact h.bad v (old v hv) i j hij hj e
    · obtain ⟨k, l, rfl, hl, _⟩ := kidsTo_mem hv
      rw [List.length_append, List.length_singleton] at hj
      rw [List.take_append_of_le_length (by omega), List.take_append_of_le_length (by omega)] at e ⊢
      by_cases z : j < w.length
      · exact h.bad w hw i j hij z e
      · obtain rfl : j = w.length := by omega
        rw [List.take_length] at e ⊢
        obtain ⟨k', hk, hb⟩ := h.cov _ (h.pre w hw i hij)
        rw [e] at hk
        cases y : blB (nd ls s (w.take i)).2 (nd ls s w).2 with
        | false => rfl
        | true =>
          have := no k' hk
          rw [blB_trans hb y] at this
          cases this
  · intro v hv t ht
    rcases List.mem_append.mp hv with hv | hv
    · exact List.mem_append_left _ (h.pre v (old v hv) t ht)
    · obtain ⟨k, l, rfl, hl, _⟩ := kidsTo_mem hv
      rw [List.length_append, List.length_singleton] at ht
      rw [List.take_append_of_le_length (by omega)]
      by_cases z : t < w.length
      · exact List.mem_append_left _ (h.pre w hw t z)
      · obtain rfl : t = w.length := by omega
        rw [List.take_length]
        simp
  · intro a ha
    rcases List.mem_append.mp ha with ha | ha
    · obtain ⟨k, hk, hb⟩ := h.cov a ha
      unfold put1
      by_cases z : a.1 = (nd ls s w).1
      · rw [if_pos z]
        rw [z] at hk
        cases y : blB (nd ls s w).2 k with
        | false => exact ⟨k, List.mem_append_left _ (List.mem_filter.mpr ⟨hk, by rw [y]; rfl⟩), hb⟩
        | true => exact ⟨_, List.mem_append_right _ (List.mem_singleton.mpr rfl), blB_trans y hb⟩
      · rw [if_neg z]
        exact ⟨k, hk, hb⟩
    · rw [List.mem_singleton.mp ha]
      unfold put1
      rw [if_pos rfl]
      exact ⟨_, List.mem_append_right _ (List.mem_singleton.mpr rfl), blB_refl _⟩
  · refine List.nodup_append.mpr ⟨h.nod, by simp, fun x hx y hy e => ?_⟩
    rw [List.mem_singleton.mp hy] at e
    rw [e] at hx
    obtain ⟨k, hk, hb⟩ := h.cov _ hx
    rw [no k hk] at hb
    cases hb
  · intro a ha
    rcases List.mem_append.mp ha with ha | ha
    · exact h.rch a ha
    · exact ⟨w, h.pth w hw, List.mem_singleton.mp ha, sh⟩
  · refine List.pairwise_append.mpr ⟨(List.pairwise_append.mp h.asc).1, ?_, fun a ha b hb => ?_⟩
    · refine List.Pairwise.imp_of_mem (R := fun _ _ => True) (fun ha hb _ => ?_) (List.pairwise_of_forall fun _ _ => True.intro)
      obtain ⟨_, _, rfl, _⟩ := kidsTo_mem ha
      obtain ⟨_, _, rfl, _⟩ := kidsTo_mem hb
      simp
    · obtain ⟨_, _, rfl, _⟩ := kidsTo_mem hb
      have := low a ha
      simp
      omega
  · intro d
    rw [List.filter_append, List.length_append]
    by_cases z : d = w.length + 1
    · have e : (st.filter fun v => decide (v.length = d)) = [] := List.filter_eq_nil_iff.mpr fun v hv y => by
        have := low v hv
        have := of_decide_eq_true y
        omega
      rw [e]
      have := Nat.le_trans (List.length_filter_le (fun v : List Nat => decide (v.length = d)) (kidsTo ls (nd ls s w).1 w ls.length)) (kidsTo_len _ _ _ _)
      simp only [List.length_nil]
      omega
    · have e : ((kidsTo ls (nd ls s w).1 w ls.length).filter fun v => decide (v.length = d)) = [] := List.filter_eq_nil_iff.mpr fun v hv y => by
        obtain ⟨_, _, rfl, _⟩ := kidsTo_mem hv
        have := of_decide_eq_true y
        rw [List.length_append, List.length_singleton] at this
        omega
      rw [e]
      have := h.cnt d
      rw [List.filter_append, List.length_append] at this
      simp only [List.length_nil]
      omega
  · intro p k hk
    unfold put1 at hk
    by_cases z : p = (nd ls s w).1
    · rw [if_pos z] at hk
      rcases List.mem_append.mp hk with hk | hk
      · rw [z]
        exact List.mem_append_left _ (h.knr _ k (List.mem_filter.mp hk).1)
      · rw [z, List.mem_singleton.mp hk]
        exact List.mem_append_right _ (by simp)
    · rw [if_neg z] at hk
      exact List.mem_append_left _ (h.knr p k hk)
/-- the measure -/
def mOf (ls : List (L α)) (ps : List α) (acc : List (α × Sh)) (st : List (List Nat)) : Nat := ((allN ps (Dmax ps.length ls.length)).length - acc.length) * (ls.length + 2) + st.length
theorem m_skip : mOf ls ps acc st < mOf ls ps acc (st ++ [w]) := by
  unfold mOf
  rw [List.length_append, List.length_singleton]
  omega
theorem m_keep {a : α × Sh} {ks : List (List Nat)} (hk : ks.length ≤ ls.length) (h : (acc ++ [a]).length ≤ (allN ps (Dmax ps.length ls.length)).length) : mOf ls ps (acc ++ [a]) (st ++ ks) < mOf ls ps acc (st ++ [w]) := by
  unfold mOf
  rw [List.length_append, List.length_append, List.length_append, List.length_singleton, List.length_singleton] at *
  generalize (allN ps (Dmax ps.length ls.length)).length = C at *
  obtain ⟨d, rfl⟩ : ∃ d, C = acc.length + 1 + d := ⟨C - (acc.length + 1), by omega⟩
  rw [show acc.length + 1 + d - (acc.length + 1) = d by omega, show acc.length + 1 + d - acc.length = d + 1 by omega, Nat.add_mul]
  omega
end
end TB

namespace K21
open PySem PySem.Spec PyProof.Rows L2 RZ StX Tv
def topS (i : Nat) : Stmt := PySem.Challenge.pw_timesover_k21_times_of_rings.main.body.getD i (.Pass ⟨0, 0, 0, 0⟩)
abbrev s_is_integer : Stmt := topS 10
abbrev N_is_integer : List Str := ["value"]
theorem sc_is_integer : FnScope N_is_integer ["value"] (defScope s_is_integer) := ⟨rfl, rfl, rfl, by decide +kernel, rfl, by decide +kernel, by decide +kernel⟩
abbrev s_is_name : Stmt := topS 11
abbrev N_is_name : List Str := ["value", "letter"]
theorem sc_is_name : FnScope N_is_name ["value"] (defScope s_is_name) := ⟨rfl, rfl, rfl, by decide +kernel, rfl, by decide +kernel, by decide +kernel⟩
abbrev s_is_numeral : Stmt := topS 12
abbrev N_is_numeral : List Str := ["text"]
theorem sc_is_numeral : FnScope N_is_numeral ["text"] (defScope s_is_numeral) := ⟨rfl, rfl, rfl, by decide +kernel, rfl, by decide +kernel, by decide +kernel⟩
abbrev s_is_long_numeral : Stmt := topS 13
abbrev N_is_long_numeral : List Str := ["text", "most", "figure"]
theorem sc_is_long_numeral : FnScope N_is_long_numeral ["text", "most"] (defScope s_is_long_numeral) := ⟨rfl, rfl, rfl, by decide +kernel, rfl, by decide +kernel, by decide +kernel⟩
abbrev s_kept_shift : Stmt := topS 15
abbrev N_kept_shift : List Str := ["depth"]
theorem sc_kept_shift : FnScope N_kept_shift ["depth"] (defScope s_kept_shift) := ⟨rfl, rfl, rfl, by decide +kernel, rfl, by decide +kernel, by decide +kernel⟩
abbrev s_is_depth : Stmt := topS 16
abbrev N_is_depth : List Str := ["value"]
theorem sc_is_depth : FnScope N_is_depth ["value"] (defScope s_is_depth) := ⟨rfl, rfl, rfl, by decide +kernel, rfl, by decide +kernel, by decide +kernel⟩
abbrev s_check_depth : Stmt := topS 17
abbrev N_check_depth : List Str := ["value"]
theorem sc_check_depth : FnScope N_check_depth ["value"] (defScope s_check_depth) := ⟨rfl, rfl, rfl, by decide +kernel, rfl, by decide +kernel, by decide +kernel⟩
abbrev s_joined_words : Stmt := topS 18
abbrev N_joined_words : List Str := ["one", "other", "part", "word"]
theorem sc_joined_words : FnScope N_joined_words ["one", "other"] (defScope s_joined_words) := ⟨rfl, rfl, rfl, by decide +kernel, rfl, by decide +kernel, by decide +kernel⟩
abbrev s_raised_word : Stmt := topS 19
abbrev N_raised_word : List Str := ["word", "more"]
theorem sc_raised_word : FnScope N_raised_word ["word", "more"] (defScope s_raised_word) := ⟨rfl, rfl, rfl, by decide +kernel, rfl, by decide +kernel, by decide +kernel⟩
abbrev s_plan_rows : Stmt := topS 25
abbrev N_plan_rows : List Str := ["text", "depths", "lines", "number", "row", "words", "word"]
theorem sc_plan_rows : FnScope N_plan_rows ["text"] (defScope s_plan_rows) := ⟨rfl, rfl, rfl, by decide +kernel, rfl, by decide +kernel, by decide +kernel⟩
abbrev s_is_place_row : Stmt := topS 26
abbrev N_is_place_row : List Str := ["words", "depths"]
theorem sc_is_place_row : FnScope N_is_place_row ["words", "depths"] (defScope s_is_place_row) := ⟨rfl, rfl, rfl, by decide +kernel, rfl, by decide +kernel, by decide +kernel⟩
abbrev s_is_line_row : Stmt := topS 27
abbrev N_is_line_row : List Str := ["words", "depths", "part", "word"]
theorem sc_is_line_row : FnScope N_is_line_row ["words", "depths"] (defScope s_is_line_row) := ⟨rfl, rfl, rfl, by decide +kernel, rfl, by decide +kernel, by decide +kernel⟩
abbrev s_is_shift_word : Stmt := topS 28
abbrev N_is_shift_word : List Str := ["word", "is_there"]
theorem sc_is_shift_word : FnScope N_is_shift_word ["word", "is_there"] (defScope s_is_shift_word) := ⟨rfl, rfl, rfl, by decide +kernel, rfl, by decide +kernel, by decide +kernel⟩
abbrev s_depth_of : Stmt := topS 29
abbrev N_depth_of : List Str := ["plan", "place"]
theorem sc_depth_of : FnScope N_depth_of ["plan", "place"] (defScope s_depth_of) := ⟨rfl, rfl, rfl, by decide +kernel, rfl, by decide +kernel, by decide +kernel⟩
abbrev s_check_place : Stmt := topS 30
abbrev N_check_place : List Str := ["plan", "value"]
theorem sc_check_place : FnScope N_check_place ["plan", "value"] (defScope s_check_place) := ⟨rfl, rfl, rfl, by decide +kernel, rfl, by decide +kernel, by decide +kernel⟩
abbrev s_way_end : Stmt := topS 32
abbrev N_way_end : List Str := ["plan", "place", "way", "here", "number"]
theorem sc_way_end : FnScope N_way_end ["plan", "place", "way"] (defScope s_way_end) := ⟨rfl, rfl, rfl, by decide +kernel, rfl, by decide +kernel, by decide +kernel⟩
abbrev s_joined_way : Stmt := topS 33
abbrev N_joined_way : List Str := ["plan", "place", "way", "shift", "number"]
theorem sc_joined_way : FnScope N_joined_way ["plan", "place", "way"] (defScope s_joined_way) := ⟨rfl, rfl, rfl, by decide +kernel, rfl, by decide +kernel, by decide +kernel⟩
abbrev s_ring_time : Stmt := topS 35
abbrev N_ring_time : List Str := ["plan", "place", "way", "shift", "part", "word"]
theorem sc_ring_time : FnScope N_ring_time ["plan", "place", "way"] (defScope s_ring_time) := ⟨rfl, rfl, rfl, by decide +kernel, rfl, by decide +kernel, by decide +kernel⟩
abbrev s_is_ring : Stmt := topS 36
abbrev N_is_ring : List Str := ["plan", "place", "value"]
theorem sc_is_ring : FnScope N_is_ring ["plan", "place", "value"] (defScope s_is_ring) := ⟨rfl, rfl, rfl, by decide +kernel, rfl, by decide +kernel, by decide +kernel⟩
abbrev s__law_pot : Stmt := topS 38
abbrev N__law_pot : List Str := ["script", "place", "cell", "own", "small"]
theorem sc__law_pot : FnScope N__law_pot ["script", "place"] (defScope s__law_pot) := ⟨rfl, rfl, rfl, by decide +kernel, rfl, by decide +kernel, by decide +kernel⟩
abbrev s__law_take : Stmt := topS 39
abbrev N__law_take : List Str := ["pot", "upto", "digit", "prime", "blend"]
theorem sc__law_take : FnScope N__law_take ["pot", "upto"] (defScope s__law_take) := ⟨rfl, rfl, rfl, by decide +kernel, rfl, by decide +kernel, by decide +kernel⟩
abbrev s__law_of : Stmt := topS 40
abbrev N__law_of : List Str := ["pot", "some"]
theorem sc__law_of : FnScope N__law_of ["pot", "some"] (defScope s__law_of) := ⟨rfl, rfl, rfl, by decide +kernel, rfl, by decide +kernel, by decide +kernel⟩
abbrev s__law_cells : Stmt := topS 41
abbrev N__law_cells : List Str := ["script", "most"]
theorem sc__law_cells : FnScope N__law_cells ["script", "most"] (defScope s__law_cells) := ⟨rfl, rfl, rfl, by decide +kernel, rfl, by decide +kernel, by decide +kernel⟩
abbrev s__law_at_most : Stmt := topS 42
abbrev N__law_at_most : List Str := ["one", "other", "mine", "its"]
theorem sc__law_at_most : FnScope N__law_at_most ["one", "other"] (defScope s__law_at_most) := ⟨rfl, rfl, rfl, by decide +kernel, rfl, by decide +kernel, by decide +kernel⟩
abbrev s__law_shifted : Stmt := topS 43
abbrev N__law_shifted : List Str := ["shift", "time", "at", "word", "many"]
theorem sc__law_shifted : FnScope N__law_shifted ["shift", "time"] (defScope s__law_shifted) := ⟨rfl, rfl, rfl, by decide +kernel, rfl, by decide +kernel, by decide +kernel⟩
abbrev s__law_depth : Stmt := topS 44
abbrev N__law_depth : List Str := ["own", "place"]
theorem sc__law_depth : FnScope N__law_depth ["own", "place"] (defScope s__law_depth) := ⟨rfl, rfl, rfl, by decide +kernel, rfl, by decide +kernel, by decide +kernel⟩
abbrev s__law_joined_shift : Stmt := topS 45
abbrev N__law_joined_shift : List Str := ["one", "other", "found", "at", "word", "many"]
theorem sc__law_joined_shift : FnScope N__law_joined_shift ["one", "other"] (defScope s__law_joined_shift) := ⟨rfl, rfl, rfl, by decide +kernel, rfl, by decide +kernel, by decide +kernel⟩
abbrev s__law_is_below : Stmt := topS 46
abbrev N__law_is_below : List Str := ["one", "other", "words", "fine", "mine", "its"]
theorem sc__law_is_below : FnScope N__law_is_below ["one", "other"] (defScope s__law_is_below) := ⟨rfl, rfl, rfl, by decide +kernel, rfl, by decide +kernel, by decide +kernel⟩
abbrev s__law_tables : Stmt := topS 47
abbrev N__law_tables : List Str := ["own", "place", "most", "begin", "found", "left", "here", "way", "first", "end", "shift", "name", "depth", "known"]
theorem sc__law_tables : FnScope N__law_tables ["own", "place", "most"] (defScope s__law_tables) := ⟨rfl, rfl, rfl, by decide +kernel, rfl, by decide +kernel, by decide +kernel⟩
abbrev s__law_stood : Stmt := topS 48
abbrev N__law_stood : List Str := ["standing", "shift", "found", "at", "word", "many", "mine"]
theorem sc__law_stood : FnScope N__law_stood ["standing", "shift"] (defScope s__law_stood) := ⟨rfl, rfl, rfl, by decide +kernel, rfl, by decide +kernel, by decide +kernel⟩
abbrev s__law_standings : Stmt := topS 49
abbrev N__law_standings : List Str := ["own", "place", "begin", "found", "left", "here", "standing", "end", "shift", "later", "first"]
theorem sc__law_standings : FnScope N__law_standings ["own", "place"] (defScope s__law_standings) := ⟨rfl, rfl, rfl, by decide +kernel, rfl, by decide +kernel, by decide +kernel⟩
abbrev s__law_names : Stmt := topS 50
abbrev N__law_names : List Str := ["pot", "many", "found", "signs", "lap", "word", "some", "one", "sign"]
theorem sc__law_names : FnScope N__law_names ["pot", "many"] (defScope s__law_names) := ⟨rfl, rfl, rfl, by decide +kernel, rfl, by decide +kernel, by decide +kernel⟩
abbrev s__law_shift : Stmt := topS 51
abbrev N__law_shift : List Str := ["pot", "depth", "later", "found", "at", "way"]
theorem sc__law_shift : FnScope N__law_shift ["pot", "depth", "later"] (defScope s__law_shift) := ⟨rfl, rfl, rfl, by decide +kernel, rfl, by decide +kernel, by decide +kernel⟩
abbrev s__law_any_plan : Stmt := topS 52
abbrev N__law_any_plan : List Str := ["pot", "most", "names", "places", "lines", "depths", "lap", "begin", "end", "name"]
theorem sc__law_any_plan : FnScope N__law_any_plan ["pot", "most"] (defScope s__law_any_plan) := ⟨rfl, rfl, rfl, by decide +kernel, rfl, by decide +kernel, by decide +kernel⟩
abbrev s__law_plan : Stmt := topS 53
abbrev N__law_plan : List Str := ["pot", "most", "own", "lines", "begin", "end", "shift", "more", "one", "later", "name", "depth", "word", "many", "standing"]
theorem sc__law_plan : FnScope N__law_plan ["pot", "most"] (defScope s__law_plan) := ⟨rfl, rfl, rfl, by decide +kernel, rfl, by decide +kernel, by decide +kernel⟩
abbrev s__law_plan_text : Stmt := topS 54
abbrev N__law_plan_text : List Str := ["own", "rows", "begin", "end", "shift", "name", "depth", "word", "many"]
theorem sc__law_plan_text : FnScope N__law_plan_text ["own"] (defScope s__law_plan_text) := ⟨rfl, rfl, rfl, by decide +kernel, rfl, by decide +kernel, by decide +kernel⟩
abbrev s__law_time : Stmt := topS 55
abbrev N__law_time : List Str := ["pot", "depth", "most", "at"]
theorem sc__law_time : FnScope N__law_time ["pot", "depth", "most"] (defScope s__law_time) := ⟨rfl, rfl, rfl, by decide +kernel, rfl, by decide +kernel, by decide +kernel⟩
abbrev s__law_walked : Stmt := topS 56
abbrev N__law_walked : List Str := ["own", "place", "way", "time", "here", "found", "number", "begin", "end", "shift"]
theorem sc__law_walked : FnScope N__law_walked ["own", "place", "way", "time"] (defScope s__law_walked) := ⟨rfl, rfl, rfl, by decide +kernel, rfl, by decide +kernel, by decide +kernel⟩
abbrev s__law_ring : Stmt := topS 57
abbrev N__law_ring : List Str := ["pot", "own", "place", "here", "way", "lap", "lines", "number", "line"]
theorem sc__law_ring : FnScope N__law_ring ["pot", "own"] (defScope s__law_ring) := ⟨rfl, rfl, rfl, by decide +kernel, rfl, by decide +kernel, by decide +kernel⟩
abbrev s__law_drawn : Stmt := topS 58
abbrev N__law_drawn : List Str := ["pot", "most"]
theorem sc__law_drawn : FnScope N__law_drawn ["pot", "most"] (defScope s__law_drawn) := ⟨rfl, rfl, rfl, by decide +kernel, rfl, by decide +kernel, by decide +kernel⟩
abbrev s__law_way_shift : Stmt := topS 59
abbrev N__law_way_shift : List Str := ["own", "place", "way", "found", "number"]
theorem sc__law_way_shift : FnScope N__law_way_shift ["own", "place", "way"] (defScope s__law_way_shift) := ⟨rfl, rfl, rfl, by decide +kernel, rfl, by decide +kernel, by decide +kernel⟩
abbrev s__law_is_ring_right : Stmt := topS 60
abbrev N__law_is_ring_right : List Str := ["pot", "own", "plan", "ring", "place", "way", "shift", "raised", "told", "least", "other", "at", "word", "many"]
theorem sc__law_is_ring_right : FnScope N__law_is_ring_right ["pot", "own", "plan"] (defScope s__law_is_ring_right) := ⟨rfl, rfl, rfl, by decide +kernel, rfl, by decide +kernel, by decide +kernel⟩
abbrev s__law_right : Stmt := topS 61
abbrev N__law_right : List Str := ["pot", "own", "plan", "lap"]
theorem sc__law_right : FnScope N__law_right ["pot"] (defScope s__law_right) := ⟨rfl, rfl, rfl, by decide +kernel, rfl, by decide +kernel, by decide +kernel⟩
abbrev s_law : Stmt := topS 62
abbrev N_law : List Str := ["script", "pots", "place", "pot", "lap"]
theorem sc_law : FnScope N_law ["script"] (defScope s_law) := ⟨rfl, rfl, rfl, by decide +kernel, rfl, by decide +kernel, by decide +kernel⟩
abbrev s_Plan___init__ : Stmt := inClass (topS 24) 0
abbrev N_Plan___init__ : List Str := ["self", "text", "places", "lines"]
theorem sc_Plan___init__ : FnScope N_Plan___init__ ["self", "text"] (defScope s_Plan___init__) := ⟨rfl, rfl, rfl, by decide +kernel, rfl, by decide +kernel, by decide +kernel⟩
abbrev s_Plan___len__ : Stmt := inClass (topS 24) 1
abbrev N_Plan___len__ : List Str := ["self"]
theorem sc_Plan___len__ : FnScope N_Plan___len__ ["self"] (defScope s_Plan___len__) := ⟨rfl, rfl, rfl, by decide +kernel, rfl, by decide +kernel, by decide +kernel⟩
abbrev s_Plan___contains__ : Stmt := inClass (topS 24) 2
abbrev N_Plan___contains__ : List Str := ["self", "value", "name", "depth"]
theorem sc_Plan___contains__ : FnScope N_Plan___contains__ ["self", "value"] (defScope s_Plan___contains__) := ⟨rfl, rfl, rfl, by decide +kernel, rfl, by decide +kernel, by decide +kernel⟩
abbrev s_Plan___eq__ : Stmt := inClass (topS 24) 3
abbrev N_Plan___eq__ : List Str := ["self", "other"]
theorem sc_Plan___eq__ : FnScope N_Plan___eq__ ["self", "other"] (defScope s_Plan___eq__) := ⟨rfl, rfl, rfl, by decide +kernel, rfl, by decide +kernel, by decide +kernel⟩

/-! ### the mathematics -/
abbrev tm (ns : List Int) : PyData := .tuple (ns.map .int)
def sign (b : Bool) : Str := if b then "+" else "="
abbrev wd (w : Bool × Int) : PyData := .tuple [.str (sign w.1), .int w.2]
abbrev sh (l : List (Bool × Int)) : PyData := .tuple (l.map wd)
def TmOk (ns : List Int) : Prop := 1 ≤ ns.length ∧ ns.length ≤ 4 ∧ ∀ n ∈ ns, 0 ≤ n
def ShOk (l : List (Bool × Int)) : Prop := 1 ≤ l.length ∧ l.length ≤ 4 ∧ ∀ w ∈ l, 0 ≤ w.2
def KC_SIGNS (K : PySem.W.Frag) (mg : Str → Option Value) : Prop := ∃ a, mg "SIGNS" = some (.ref a) ∧ Dp K (fun _ => none) (.ref a) (.tuple ([Str.ofString "+", Str.ofString "="].map .str))
def p_is_integer : PT' := fun ws U P => ∃ i : Int, ws = [.i i] ∧ P (.b true) U
def p_is_from_nought : PT' := fun ws U P => ∃ i : Int, ws = [.i i] ∧ P (.b (decide (0 ≤ i))) U
def p_is_time : PT' := fun ws U P => ∃ ns, ws = [.d (tm ns)] ∧ TmOk ns ∧ P (.b true) U
def p_check_time : PT' := fun ws U P => ∃ ns, ws = [.d (tm ns)] ∧ TmOk ns ∧ P (.d .none) U
def p_is_depth : PT' := fun ws U P => ∃ i : Int, ws = [.i i] ∧ 1 ≤ i ∧ i ≤ 4 ∧ P (.b true) U
def p_check_depth : PT' := fun ws U P => ∃ i : Int, ws = [.i i] ∧ 1 ≤ i ∧ i ≤ 4 ∧ P (.d .none) U
def p_is_word : PT' := fun ws U P => ∃ w, ws = [.d (wd w)] ∧ 0 ≤ w.2 ∧ P (.b true) U
def p_is_shift : PT' := fun ws U P => ∃ l, ws = [.d (sh l)] ∧ ShOk l ∧ P (.b true) U
def p_check_shift : PT' := fun ws U P => ∃ l, ws = [.d (sh l)] ∧ ShOk l ∧ P (.d .none) U
def p_kept_shift : PT' := fun ws U P => ∃ i : Int, ws = [.i i] ∧ 1 ≤ i ∧ i ≤ 4 ∧ P (.d (sh (List.replicate i.toNat (true, 0)))) U
abbrev leads (l : List (Bool × Int)) (k : Nat) : Bool := (l.drop k).all fun w => !w.1
def mv (l : List (Bool × Int)) (ns : List Int) : List Int := l.mapIdx fun i w => if w.1 then ns.getD i 0 + w.2 else w.2
theorem leads_lt {l : List (Bool × Int)} {k : Nat} (h : leads l k = true) {i : Nat} {w : Bool × Int} (e : l[i]? = some w) (hw : w.1 = true) : i < k := by
  by_cases hi : i < k
  · exact hi
  · have e2 : (l.drop k)[i - k]? = some w := by rw [List.getElem?_drop, show k + (i - k) = i by omega]; exact e
    have := List.all_eq_true.mp h w (List.mem_of_getElem? e2)
    rw [hw] at this
    cases this
theorem sign_eq (b : Bool) : decide (sign b = ("=" : Str)) = !b := by cases b <;> rfl
theorem sign_eqp (b : Bool) : decide (sign b = ("+" : Str)) = b := by cases b <;> rfl
def p_leads_from : PT' := fun ws U P => ∃ l, ∃ k : Nat, ws = [.d (sh l), .i (k : Int)] ∧ l.length ≤ 100 ∧ P (.b (leads l k)) U
def p_does_lead : PT' := fun ws U P => ∃ l, ∃ k : Nat, ws = [.d (sh l), .i (k : Int)] ∧ ShOk l ∧ 1 ≤ k ∧ k ≤ 4 ∧ P (.b (leads l k)) U
def p_time_behind : PT' := fun ws U P => ∃ l ns, ws = [.d (sh l), .d (tm ns)] ∧ l.length ≤ 100 ∧ leads l ns.length = true ∧ P (.d (tm (mv l ns))) U
def p_shifted : PT' := fun ws U P => ∃ l ns, ws = [.d (sh l), .d (tm ns)] ∧ ShOk l ∧ TmOk ns ∧ leads l ns.length = true ∧ P (.d (tm (mv l ns))) U
def atMost (a b : List Int) : Bool := decide (a.length = b.length) && (a.zip b).all fun p => decide (p.1 ≤ p.2)
def jn (a b : List (Bool × Int)) : List (Bool × Int) := b.mapIdx fun i w => if w.1 then ((a.getD i (false, 0)).1, (a.getD i (false, 0)).2 + w.2) else w
def p_is_at_most : PT' := fun ws U P => ∃ a b, ws = [.d (tm a), .d (tm b)] ∧ P (.b (atMost a b)) U
def p_is_before : PT' := fun ws U P => ∃ a b, ws = [.d (tm a), .d (tm b)] ∧ TmOk a ∧ TmOk b ∧ P (.b (atMost a b)) U
def p_raised_word : PT' := fun ws U P => ∃ (w : Bool × Int) (m : Int), ws = [.d (wd w), .i m] ∧ P (.d (wd (w.1, w.2 + m))) U
def p_joined_words : PT' := fun ws U P => ∃ a b, ws = [.d (sh a), .d (sh b)] ∧ b.length ≤ 100 ∧ leads b a.length = true ∧ P (.d (sh (jn a b))) U
def p_joined_shift : PT' := fun ws U P => ∃ a b, ws = [.d (sh a), .d (sh b)] ∧ ShOk a ∧ ShOk b ∧ leads b a.length = true ∧ P (.d (sh (jn a b))) U
abbrev tops (a b : List Int) : List Int := List.zipWith (fun m s => if s > m then s else m) a b
def p_common_time : PT' := fun ws U P => ∃ a b, ws = [.d (tm a), .d (tm b)] ∧ TmOk a ∧ TmOk b ∧ a.length = b.length ∧ P (.d (tm (tops a b))) U
def p_are_times : PT' := fun ws U P => ∃ (ts : List (List Int)) (d : Nat), ws = [.t (ts.map tup)] ∧ ts.length < 64 ∧ (∀ t ∈ ts, TmOk t ∧ t.length = d) ∧ P (.b true) U
def p_has_at_most : PT' := fun ws U P => ∃ (p : Addr) (ts : List (List Int)) (t : List Int), ws = [.r p, .d (tm t)] ∧ U p = some ((ts.map tup).map W.d) ∧ P (.b (ts.any fun u => atMost u t)) U
def p_later_parts : PT' := fun ws U P => ∃ a b, ws = [.d (tm a), .d (tm b)] ∧ a.length ≤ 100 ∧ P (.d (tm (tops a b))) U
abbrev isLeast (L : List (List Int)) (t : List Int) : Bool := !(L.any fun u => (!decide (u = t)) && atMost u t)
abbrev least (L : List (List Int)) : List (List Int) := L.filter (isLeast L)
def p_least_of : PT' := fun ws U P => ∃ (ts : List (List Int)) (d : Nat) (B : Int), ws = [.t (ts.map tup)] ∧ ts.length < 64 ∧ 1 ≤ d ∧ (∀ t ∈ ts, t.length = d ∧ TS.Bd B t) ∧ ∀ L, Srt B ts L → P (.t ((least L).map tup)) U
def p_least_times : PT' := fun ws U P => ∃ (ts : List (List Int)) (d : Nat) (B : Int), ws = [.t (ts.map tup)] ∧ ts.length < 64 ∧ 1 ≤ d ∧ (∀ t ∈ ts, TmOk t ∧ t.length = d ∧ TS.Bd B t) ∧ ∀ L, Srt B ts L → P (.t ((least L).map tup)) U
theorem getD_map {α : Type} {f : α → PyData} {xs : List α} {i : Nat} (h : i < (xs.map f).length) : ∃ x, xs[i]? = some x ∧ x ∈ xs ∧ (xs.map f).getD i .none = f x := by
  have h' : i < xs.length := by simpa using h
  exact ⟨xs[i], by simp [h'], List.getElem_mem h', by simp [List.getD_eq_getElem?_getD, h']⟩
theorem all_rep (n : Nat) : (List.replicate n true).all id = true := by simp

def p_any_time (B : Int) : PT' := fun ws U P => ∃ (p : Addr) (n k : Nat), ws = [.r p, .i (k : Int)] ∧ Pt U p n ∧ n + k < 100000 ∧ k ≤ 100 ∧ ∀ (ns : List Int) U', ns.length = k → (∀ x ∈ ns, 0 ≤ x ∧ x ≤ B) → Pt U' p (n + k) → Els p U U' → P (.d (tm ns)) U'
def p_any_shift : PT' := fun ws U P => ∃ (p : Addr) (n dep many : Nat), ws = [.r p, .i (dep : Int), .i (many : Int)] ∧ Pt U p n ∧ n + 2 * many < 100000 ∧ many ≤ 100 ∧
  ∀ (l : List (Bool × Int)) U', l.length = many → (∀ w ∈ l, 0 ≤ w.2 ∧ w.2 ≤ 10 ^ 30) → leads l dep = true → Pt U' p (n + 2 * many) → Els p U U' → P (.d (sh l)) U'
theorem ok_wd {w : Bool × Int} (h : w.2.natAbs < 10 ^ 90) : Ok 3 1 (wd w) :=
  ok_tup (okAll_cons (ok_str (n := 1) (by cases w.1 <;> decide) (by cases w.1 <;> decide)) (okAll_cons (ok_int h) okAll_nil))
theorem ok_sh {l : List (Bool × Int)} (h : ∀ w ∈ l, w.2.natAbs < 10 ^ 90) (hl : l.length ≤ 100) : Ok 400 2 (sh l) :=
  (ok_tup (okAll_of (n := 3) (k := 1) fun x hx => by obtain ⟨w, hw, rfl⟩ := List.mem_map.mp hx; exact ok_wd (h w hw))).mono (by rw [List.length_map]; omega) (by decide)
theorem ok_tm {ns : List Int} (h : ∀ n ∈ ns, n.natAbs < 10 ^ 90) (hl : ns.length ≤ 100) : Ok 400 2 (tm ns) :=
  (ok_tup (okAll_of (n := 0) (k := 0) fun x hx => by obtain ⟨w, hw, rfl⟩ := List.mem_map.mp hx; exact ok_int (h w hw))).mono (by rw [List.length_map]; omega) (by decide)
theorem rep_wd (n : Nat) : (List.replicate n [PyData.tuple [.str "+", .int 0]]).flatten = (List.replicate n (true, (0 : Int))).map wd := by
  induction n with
  | zero => rfl
  | succ n ih => rw [List.replicate_succ, List.replicate_succ, List.flatten_cons, ih]; rfl
theorem mv_kept {ns : List Int} : mv (List.replicate ns.length (true, 0)) ns = ns := by
  unfold mv
  apply List.ext_getElem
  · simp
  · intro i h1 h2
    simp [List.getD_eq_getElem?_getD, h2]
theorem leads_of {l : List (Bool × Int)} {k : Nat} (h : ∀ (i : Nat) w, l[i]? = some w → w.1 = true → i < k) : leads l k = true := by
  rw [leads, List.all_eq_true]
  intro w hw
  obtain ⟨j, hj⟩ := List.mem_iff_getElem?.mp hw
  rw [List.getElem?_drop] at hj
  cases e : w.1 with
  | false => rfl
  | true =>
    have := h _ _ hj e
    omega

def KC_MOST_PLACES (_K : PySem.W.Frag) (mg : Str → Option Value) : Prop := ∃ t, mg "MOST_PLACES" = some (.int 12 t)
def KC_MOST_LINES (_K : PySem.W.Frag) (mg : Str → Option Value) : Prop := ∃ t, mg "MOST_LINES" = some (.int 24 t)
def KC_DEPTHS (K : PySem.W.Frag) (mg : Str → Option Value) : Prop := ∃ a, mg "DEPTHS" = some (.ref a) ∧ Dp K (fun _ => none) (.ref a) (.tuple ([Str.ofString "1", Str.ofString "2", Str.ofString "3", Str.ofString "4"].map .str))
theorem plK_get {nm : Str} : ∀ {ps : List (Str × Nat)}, (getK (ps.map fun p => ((Sum.inr p.1 : Key), W.i (p.2 : Int))) (.inr nm)).isSome = decide (nm ∈ ps.map (·.1))
  | [] => rfl
  | p :: ps => by
    rw [List.map_cons, getK_cons]
    by_cases e : p.1 = nm
    · subst e
      simp
    · have e2 : ¬ (Sum.inr p.1 : Key) = Sum.inr nm := fun z => e (Sum.inr.inj z)
      rw [if_neg e2, plK_get (ps := ps)]
      have e3 : ¬ nm = p.1 := fun z => e z.symm
      simp [e3]
def KC_LETTERS (_K : PySem.W.Frag) (mg : Str → Option Value) : Prop := ∃ t, mg "LETTERS" = some (.str (Str.ofString "abcdefghijklmnopqrstuvwxyz") t)
def KC_FIGURES (_K : PySem.W.Frag) (mg : Str → Option Value) : Prop := ∃ t, mg "FIGURES" = some (.str (Str.ofString "0123456789") t)
structure NameOk (s : Str) : Prop where
  lo : 1 ≤ s.length
  hi : s.length ≤ 8
  let' : ∀ c ∈ s.cps.toList, 97 ≤ c ∧ c ≤ 122
structure NumOk (s : Str) : Prop where
  lo : 1 ≤ s.length
  hi : s.length ≤ 9
  fig : ∀ c ∈ s.cps.toList, 48 ≤ c ∧ c ≤ 57
  nul : s = "0" ∨ s.cps.toList.getD 0 0 ≠ 48
def p_is_name : PT' := fun ws U P => ∃ x : Str, ws = [.s x] ∧ NameOk x ∧ P (.b true) U
/-- a dict of places that are there -/
abbrev plK (ps : List (Str × Nat)) : List (Key × W) := ps.map fun p => (Sum.inr p.1, W.i (p.2 : Int))
def p_is_place_row : PT' := fun ws U P => (∃ (a : Addr) (ps : List (Str × Nat)) (nm : Str) (n : Nat), ws = [.l [.str "place", .str nm, .str (toString (n : Int))], .r a] ∧ U a = some (.k (plK ps)) ∧ ps.length < 12 ∧ NameOk nm ∧ nm ∉ ps.map (·.1) ∧ 1 ≤ n ∧ n ≤ 3 ∧ P (.b true) U) ∨
  ∃ (a : Addr) (L : List PyData), ws = [.l L, .r a] ∧ atI L 0 = some (.str "line") ∧ P (.b false) U
def p_is_numeral : PT' := fun ws U P => ∃ x : Str, ws = [.s x] ∧ NumOk x ∧ P (.b true) U
def p_is_long_numeral : PT' := fun ws U P => ∃ x : Str, ws = [.s x, .i 9] ∧ NumOk x ∧ P (.b true) U
def KC_MOST_FIGURES (_K : PySem.W.Frag) (mg : Str → Option Value) : Prop := ∃ t, mg "MOST_FIGURES" = some (.int 9 t)
def p_is_shift_word : PT' := fun ws U P => ∃ (b t : Bool) (x : Str), ws = [.s (sign b ++ x), .b t] ∧ NumOk x ∧ (b = true → t = true) ∧ P (.b true) U
abbrev wtext (w : Bool × Nat) : Str := sign w.1 ++ toString (w.2 : Int)
def p_is_line_row : PT' := fun ws U P => ∃ (a : Addr) (ps : List (Str × Nat)) (b e : Str) (db de : Nat) (sh : List (Bool × Nat)), ws = [.l (.str "line" :: .str b :: .str e :: sh.map fun w => .str (wtext w)), .r a] ∧ U a = some (.k (plK ps)) ∧
  getK (plK ps) (.inr b) = some (.i (db : Int)) ∧ getK (plK ps) (.inr e) = some (.i (de : Int)) ∧ sh.length = de ∧ de ≤ 4 ∧ (∀ i w, sh[i]? = some w → w.2 ≤ 3 ∧ (w.1 = true → i < db)) ∧ P (.b true) U
theorem num_ok {n : Nat} (h : n ≤ 3) : NumOk (toString (n : Int)) := by
  rcases (show n = 0 ∨ n = 1 ∨ n = 2 ∨ n = 3 by omega) with rfl | rfl | rfl | rfl <;> exact ⟨by decide +kernel, by decide +kernel, by decide +kernel, by decide +kernel⟩
/-- an own plan: its places, its lines -/
abbrev Ln := Str × Str × List (Bool × Nat)
abbrev shN (l : List (Bool × Nat)) : PyData := .tuple (l.map fun w => .tuple [.str (sign w.1), .int (w.2 : Int)])
abbrev lnD (l : Ln) : PyData := .tuple [.str l.1, .str l.2.1, shN l.2.2]
abbrev plKv (ps : List (Str × Nat)) : List (Key × PyData) := ps.map fun p => (Sum.inr p.1, .int (p.2 : Int))
structure OwnOk (ps : List (Str × Nat)) (ls : List Ln) : Prop where
  one : 1 ≤ ps.length
  few : ps.length ≤ 12
  nms : ∀ p ∈ ps, NameOk p.1 ∧ 1 ≤ p.2 ∧ p.2 ≤ 3
  nd : (ps.map (·.1)).Nodup
  lf : ls.length ≤ 24
  lns : ∀ l ∈ ls, ∃ db de, (l.1, db) ∈ ps ∧ (l.2.1, de) ∈ ps ∧ l.2.2.length = de ∧ ∀ i w, l.2.2[i]? = some w → w.2 ≤ 3 ∧ (w.1 = true → i < db)
abbrev prow (p : Str × Nat) : List Str := ["place", p.1, toString (p.2 : Int)]
abbrev lrow (l : Ln) : List Str := "line" :: l.1 :: l.2.1 :: l.2.2.map wtext
abbrev rows (ps : List (Str × Nat)) (ls : List Ln) : List (List Str) := ps.map prow ++ ls.map lrow
def own_text (ps : List (Str × Nat)) (ls : List Ln) : Str := Txt.join (Str.ofString "\n") ((rows ps ls).map (Txt.join (Str.ofString " ")))
/-- what the text of a plan is split to -/
structure TextOk (ps : List (Str × Nat)) (ls : List Ln) : Prop where
  rw1 : Txt.split (own_text ps ls) (Str.ofString "\n") = (rows ps ls).map (Txt.join (Str.ofString " "))
  wd : ∀ r ∈ rows ps ls, Txt.split (Txt.join (Str.ofString " ") r) (Str.ofString " ") = r
  len : (own_text ps ls).length + 2 ≤ sizeLine
  lens : ∀ r ∈ rows ps ls, (Txt.join (Str.ofString " ") r).length + 2 ≤ sizeLine
def p_plan_rows (K : PySem.W.Frag) : PT' := fun ws U P => ∃ (ps : List (Str × Nat)) (ls : List Ln), ws = [.s (own_text ps ls)] ∧ OwnOk ps ls ∧ TextOk ps ls ∧ P (.tw K [.pt K (plKv ps), .t (ls.map lnD)]) U
/-- the attributes of an own plan -/
def planF (K : PySem.W.Frag) (ps : List (Str × Nat)) (ls : List Ln) : List (Str × W) := [("text", .s (own_text ps ls)), ("places", .pt K (plKv ps)), ("lines", .t (ls.map lnD))]
def p_plan_init (K : PySem.W.Frag) (C : Addr) : PT' := fun ws U P => ∃ (x dx : Addr) (ps : List (Str × Nat)) (ls : List Ln), ws = [.r x, .s (own_text ps ls)] ∧ U x = some (.o C dx []) ∧ OwnOk ps ls ∧ TextOk ps ls ∧ P (.d .none) (put U x (.o C dx (planF K ps ls)))
def p_plan_contains (K : PySem.W.Frag) (C : Addr) : PT' := fun ws U P => ∃ (ps : List (Str × Nat)) (ls : List Ln) (x : Str), ws = [.ob K C (planF K ps ls), .s x] ∧ ps.length ≤ 12 ∧ P (.b (decide (x ∈ ps.map (·.1)))) U
abbrev plW (K : PySem.W.Frag) (C : Addr) (ps : List (Str × Nat)) (ls : List Ln) : W := .ob K C (planF K ps ls)
abbrev ptD (p : Str × List Int) : PyData := .tuple [.str p.1, tm p.2]
structure PtOk (ps : List (Str × Nat)) (p : Str × List Int) : Prop where
  at' : (p.1, p.2.length) ∈ ps
  tm' : TmOk p.2
/-- the numbers of the lines from a place -/
def frm (ls : List Ln) (n : Str) : List Nat := (List.range ls.length).filter fun i => decide ((ls.map (fun l : Ln => l.1)).getD i (Str.ofString "") = n)
def p_check_place (K : PySem.W.Frag) (C : Addr) : PT' := fun ws U P => ∃ ps ls n, ws = [plW K C ps ls, .s n] ∧ ps.length ≤ 12 ∧ n ∈ ps.map (·.1) ∧ P (.d .none) U
def p_lines_from (K : PySem.W.Frag) (C : Addr) : PT' := fun ws U P => ∃ ps ls n, ws = [plW K C ps ls, .s n] ∧ ps.length ≤ 12 ∧ ls.length ≤ 24 ∧ n ∈ ps.map (·.1) ∧ P (.t ((frm ls n).map fun i : Nat => PyData.int (i : Int))) U
def p_depth_of (K : PySem.W.Frag) (C : Addr) : PT' := fun ws U P => ∃ ps ls n d, ws = [plW K C ps ls, .s n] ∧ ps.length ≤ 12 ∧ (ps.map (·.1)).Nodup ∧ (n, d) ∈ ps ∧ P (.i (d : Int)) U
def p_is_point (K : PySem.W.Frag) (C : Addr) : PT' := fun ws U P => ∃ ps ls p, ws = [plW K C ps ls, .d (ptD p)] ∧ ps.length ≤ 12 ∧ (ps.map (·.1)).Nodup ∧ PtOk ps p ∧ P (.b true) U
def p_check_point (K : PySem.W.Frag) (C : Addr) : PT' := fun ws U P => ∃ ps ls p, ws = [plW K C ps ls, .d (ptD p)] ∧ ps.length ≤ 12 ∧ (ps.map (·.1)).Nodup ∧ PtOk ps p ∧ P (.d .none) U
def later (p q : Str × List Int) : Bool := decide (p.1 = q.1) && (!decide (p.2 = q.2) && atMost p.2 q.2)
def p_is_later : PT' := fun ws U P => ∃ p q : Str × List Int, ws = [.d (ptD p), .d (ptD q)] ∧ P (.b (later p q)) U
def p_law_time : PT' := fun ws U P => ∃ (p : Addr) (n k m : Nat), ws = [.r p, .i (k : Int), .i (m : Int)] ∧ Pt U p n ∧ n + k < 100000 ∧ k ≤ 100 ∧ m < 1000 ∧ ∀ (ns : List Int) U', ns.length = k → (∀ x ∈ ns, 0 ≤ x ∧ x ≤ (m : Int)) → Pt U' p (n + k) → Els p U U' → P (.d (tm ns)) U'
def ownK (ps : List (Str × Nat)) (ls : List Ln) : List (Key × W) := [(Sum.inr "places", .l (ps.map fun p => .tuple [.str p.1, .int (p.2 : Int)])), (Sum.inr "lines", .l (ls.map lnD))]
def p_plan_text (K : PySem.W.Frag) : PT' := fun ws U P => ∃ x ps ls, ws = [x] ∧ DkIs K U x (ownK ps ls) ∧ OwnOk ps ls ∧ P (.s (own_text ps ls)) U
abbrev shI (l : List (Bool × Nat)) : List (Bool × Int) := l.map fun w => (w.1, (w.2 : Int))
def puts (l : Ln) (t : List Int) (r : Str × List Int) : Bool := decide (l.2.1 = r.1) && atMost (mv (shI l.2.2) t) r.2
/-- the numbers of the lines by which p can put r -/
def nums (ls : List Ln) (p r : Str × List Int) : List Nat := (frm ls p.1).filter fun i => match ls[i]? with | some l => puts l p.2 r | none => false
abbrev wdN (w : Bool × Nat) : PyData := .tuple [.str (sign w.1), .int (w.2 : Int)]
theorem low5 {y : Int} (h : y ∈ ([0, 0, 0, 1, 3] : List Int)) : ∃ k : Nat, y = (k : Int) ∧ k ≤ 3 := by
  simp only [List.mem_cons, List.not_mem_nil, or_false] at h
  exact ⟨y.toNat, by omega, by omega⟩
theorem low5' {y : Int} (h : y ∈ ([0, 0, 1, 1, 2] : List Int)) : ∃ k : Nat, y = (k : Int) ∧ k ≤ 3 := by
  simp only [List.mem_cons, List.not_mem_nil, or_false] at h
  exact ⟨y.toNat, by omega, by omega⟩
def pOfS : PT' := fun ws U P => ∃ (p : Addr) (n : Nat) (z : Str), ws = [.r p, .s z] ∧ Pt U p n ∧ n < 100000 ∧ 1 ≤ z.length ∧ z.length < 1000000 ∧ ∀ c U', c ∈ z.cps.toList → Pt U' p (n + 1) → Els p U U' → P (.s ⟨#[c]⟩) U'
def pOf2 : PT' := fun ws U P => pOf ws U P ∨ pOfS ws U P
def p_law_shift : PT' := fun ws U P => ∃ (a : Addr) (n dep lat : Nat), ws = [.r a, .i (dep : Int), .i (lat : Int)] ∧ Pt U a n ∧ n + 3 * lat < 100000 ∧ lat ≤ 4 ∧
  ∀ (l : List (Bool × Nat)) U', l.length = lat → (∀ i w, l[i]? = some w → w.2 ≤ 3 ∧ (w.1 = true → i < dep)) → Pt U' a (n + 3 * lat) → Els a U U' → P (.d (shN l)) U'
def p_law_point (K : PySem.W.Frag) : PT' := fun ws U P => ∃ (a : Addr) (n m : Nat) (x : W) (ps : List (Str × Nat)) (ls : List Ln), ws = [.r a, x, .i (m : Int)] ∧ Pt U a n ∧ n + 10 < 100000 ∧ m < 1000 ∧ DkIs K U x (ownK ps ls) ∧ OwnOk ps ls ∧
  ∀ p U', PtOk ps p → (∀ y ∈ p.2, y ≤ (m : Int)) → Pt U' a (n + 10) → Els a U U' → P (.d (ptD p)) U'
def p_law_numbers (K : PySem.W.Frag) : PT' := fun ws U P => ∃ x ps ls p r, ws = [x, .d (ptD p), .d (ptD r)] ∧ DkIs K U x (ownK ps ls) ∧ OwnOk ps ls ∧ PtOk ps p ∧ P (.t ((nums ls p r).map fun i : Nat => PyData.int (i : Int))) U
def p_does_put : PT' := fun ws U P => ∃ (l : Ln) (t : List Int) (r : Str × List Int), ws = [.d (lnD l), .d (tm t), .d (ptD r)] ∧ l.2.2.length ≤ 100 ∧ leads (shI l.2.2) t.length = true ∧ P (.b (puts l t r)) U
def p_lines_putting (K : PySem.W.Frag) (C : Addr) : PT' := fun ws U P => ∃ ps ls p r, ws = [plW K C ps ls, .d (ptD p), .d (ptD r)] ∧ OwnOk ps ls ∧ PtOk ps p ∧ PtOk ps r ∧ P (.t ((nums ls p r).map fun i : Nat => PyData.int (i : Int))) U
def p_can_put (K : PySem.W.Frag) (C : Addr) : PT' := fun ws U P => ∃ ps ls p r, ws = [plW K C ps ls, .d (ptD p), .d (ptD r)] ∧ OwnOk ps ls ∧ PtOk ps p ∧ PtOk ps r ∧ P (.b (decide (nums ls p r ≠ []) || later p r)) U
theorem letters_mem {c : Nat} (h : 97 ≤ c ∧ c ≤ 122) : c ∈ (Str.ofString "abcdefghijklmnopqrstuvwxyz").cps.toList := by
  have e : (Str.ofString "abcdefghijklmnopqrstuvwxyz").cps.toList = (List.range 26).map (· + 97) := by decide +kernel
  rw [e, List.mem_map]
  exact ⟨c - 97, List.mem_range.mpr (by omega), by omega⟩
theorem figures_mem {c : Nat} (h : 48 ≤ c ∧ c ≤ 57) : c ∈ (Str.ofString "0123456789").cps.toList := by
  have e : (Str.ofString "0123456789").cps.toList = (List.range 10).map (· + 48) := by decide +kernel
  rw [e, List.mem_map]
  exact ⟨c - 48, List.mem_range.mpr (by omega), by omega⟩
theorem str_len (s : Str) : s.cps.toList.length = s.length := by simp [Str.length]
theorem cut_head (c : Nat) (x : Str) : cutS (⟨#[c]⟩ ++ x) none (some 1) = ⟨#[c]⟩ := by
  have e : ((⟨#[c]⟩ : Str) ++ x).cps.toList = c :: x.cps.toList := by
    show ((#[c] : Array Nat) ++ x.cps).toList = _
    simp
  have n : ((⟨#[c]⟩ : Str) ++ x).length = x.length + 1 := by
    rw [← str_len, e, List.length_cons, str_len]
  unfold cutS
  rw [e, n]
  simp [HT.sIx]
theorem cut_tail (c : Nat) (x : Str) : cutS (⟨#[c]⟩ ++ x) (some 1) none = x := by
  have e : ((⟨#[c]⟩ : Str) ++ x).cps.toList = c :: x.cps.toList := by
    show ((#[c] : Array Nat) ++ x.cps).toList = _
    simp
  have n : ((⟨#[c]⟩ : Str) ++ x).length = x.length + 1 := by
    rw [← str_len, e, List.length_cons, str_len]
  unfold cutS
  rw [e, n]
  have t : x.cps.toList.take x.length = x.cps.toList := List.take_of_length_le (by rw [str_len]; exact Nat.le_refl _)
  simp [HT.sIx, t]

section
variable {Pg : Program} {w : World} {K : PySem.W.Frag} {mg : Str → Option Value} {base : Heap} {C_Plan : Addr}
theorem kb_ring_time_0_012 {k : Nat} {p : PT'} (_ : Cal Pg w K mg base s_ring_time "ring_time" k ["plan", "place", "way"] p) : ∀ f fd, Fun K "ring_time" "ring_time" s_ring_time f fd → KBinds K fd ["plan", "place", "way"] ["plan", "place", "way"] (pick 0 3 [0, 1, 2]) (pick 0 3 [0, 1, 2]) :=
  kb_of (fun kV doc pm an cdv ct us ws hl => by
    by_cases h : us.length = 0 ∧ ws.length = 3
    · obtain ⟨h1, h2⟩ := h
      match us, ws, h1, h2 with
      | [], [z0, z1, z2], _, _ => rfl
    · rw [show pick 0 3 [0, 1, 2] us ws = [] from if_neg h] at hl
      exact absurd hl (by simp)) vals_pick
theorem cal_is_integer (B : Bi mg) (T : At K mg s_is_integer "is_integer")    : Cal Pg w K mg base s_is_integer "is_integer" 1 ["value"] p_is_integer := by
  refine calW T sc_is_integer (fun _ _ _ _ _ _ us hl => match us, hl with | [_], _ => rfl) (by rintro ws U P ⟨i, rfl, _⟩; rfl) (fun f cdv A outer s H E hr gd => ?_)
  have hu : (A.deeper (envOfC "is_integer" (defScope s_is_integer) s.heap.objs.size f cdv)).units + 70 < cLine := by have := hr.un; omega
  refine ⟨_, (pss_one (ps_ret (pe_and (pe_callB (bIsi K) (by rfl) B.isinstance (by decide +kernel) (pa_cons (pv 0) (pa_cons (pe_bltn (v := .ty "int") (u := .type "int") (by rfl) B.int (by decide +kernel) rfl) pa_nil))) (pe_one (pe_not (pe_callB (bIsi K) (by rfl) B.isinstance (by decide +kernel) (pa_cons (pv 0) (pa_cons (pe_bltn (v := .ty "bool") (u := .type "bool") (by rfl) B.bool (by decide +kernel) rfl) pa_nil)))))))), fun ws U P h => ?_⟩
  try dsimp only [cxOf, Cx.nox]
  obtain ⟨i, rfl, q⟩ := h
  walk_at "tv"
  refine ⟨true, rfl, fun _ => ?_, fun z => nomatch z⟩
  walk_at "tv"
  exact ⟨false, rfl, q⟩
theorem cal_is_depth (B : Bi mg) (T : At K mg s_is_depth "is_depth") (c_is_integer : Cal Pg w K mg base s_is_integer "is_integer" 1 ["value"] p_is_integer)   : Cal Pg w K mg base s_is_depth "is_depth" 2 ["value"] p_is_depth := by
  refine calW T sc_is_depth (fun _ _ _ _ _ _ us hl => match us, hl with | [_], _ => rfl) (by rintro ws U P ⟨i, rfl, _⟩; rfl) (fun f cdv A outer s H E hr gd => ?_)
  have hu : (A.deeper (envOfC "is_depth" (defScope s_is_depth) s.heap.objs.size f cdv)).units + 70 < cLine := by have := hr.un; omega
  refine ⟨_, (pss_one (ps_ret (pe_and (pe_callC c_is_integer hr gd (by rfl) (pa_cons (pv 0) pa_nil)) (pe_one (pe_chain op_le op_le pe_int (pv 0) pe_int))))), fun ws U P h => ?_⟩
  try dsimp only [cxOf, Cx.nox]
  obtain ⟨i, rfl, h1, h2, q⟩ := h
  walk_at "tv"
  refine ⟨i, rfl, true, rfl, fun _ => ?_, fun z => nomatch z⟩
  walk_at "tv"
  refine ⟨true, by simp; omega, fun _ => ?_, fun z => nomatch z⟩
  walk_at "tv"
  rw [decide_eq_true h2]
  exact q
theorem cal_check_depth (B : Bi mg) (T : At K mg s_check_depth "check_depth") (c_is_depth : Cal Pg w K mg base s_is_depth "is_depth" 2 ["value"] p_is_depth)   : Cal Pg w K mg base s_check_depth "check_depth" 3 ["value"] p_check_depth := by
  refine calW T sc_check_depth (fun _ _ _ _ _ _ us hl => match us, hl with | [_], _ => rfl) (by rintro ws U P ⟨i, rfl, _⟩; rfl) (fun f cdv A outer s H E hr gd => ?_)
  have hu : (A.deeper (envOfC "check_depth" (defScope s_check_depth) s.heap.objs.size f cdv)).units + 70 < cLine := by have := hr.un; omega
  refine ⟨_, (pss_one (ps_if (pt_not (pt_val (pe_callC c_is_depth hr gd (by rfl) (pa_cons (pv 0) pa_nil))))
        (pss_one ps_never)
        pss_nil)), fun ws U P h => ?_⟩
  try dsimp only [cxOf, Cx.nox]
  obtain ⟨i, rfl, h1, h2, q⟩ := h
  walk_at "tv"
  refine ⟨i, rfl, h1, h2, true, rfl, (fun z => nomatch z), fun _ => ?_⟩
  walk_at "tv"
  exact q
theorem cal_kept_shift (B : Bi mg) (T : At K mg s_kept_shift "kept_shift") (c_check_depth : Cal Pg w K mg base s_check_depth "check_depth" 3 ["value"] p_check_depth)   : Cal Pg w K mg base s_kept_shift "kept_shift" 4 ["depth"] p_kept_shift := by
  refine calW T sc_kept_shift (fun _ _ _ _ _ _ us hl => match us, hl with | [_], _ => rfl) (by rintro ws U P ⟨i, rfl, _⟩; rfl) (fun f cdv A outer s H E hr gd => ?_)
  have hu : (A.deeper (envOfC "kept_shift" (defScope s_kept_shift) s.heap.objs.size f cdv)).units + 70 < cLine := by have := hr.un; omega
  refine ⟨_, (pss_cons (ps_expr (pe_callC c_check_depth hr gd (by rfl) (pa_cons (pv 0) pa_nil)))
      (pss_one (ps_ret (pe_op (opRep K) (pe_tup (pa_cons (pe_tup (pa_cons pe_str (pa_cons pe_int pa_nil))) pa_nil)) (pv 0))))), fun ws U P h => ?_⟩
  try dsimp only [cxOf, Cx.nox]
  obtain ⟨i, rfl, h1, h2, q⟩ := h
  walk_at "tv"
  refine ⟨i, rfl, h1, h2, ?_⟩
  walk_at "tv"
  refine ⟨[.str "+", .int 0], rfl, by show 2 ≤ sizeLine; decide, ?_⟩
  walk_at "tv"
  refine ⟨[.tuple [.str "+", .int 0]], rfl, by show 1 ≤ sizeLine; decide, ?_⟩
  walk_at "tv"
  refine r2_rep (by simp) h1 (by omega) (by simp) ?_
  have e : (List.replicate i.toNat [PyData.tuple [.str "+", .int 0]]).flatten = (List.replicate i.toNat (true, (0 : Int))).map wd := by
    generalize i.toNat = n
    induction n with
    | zero => rfl
    | succ n ih => rw [List.replicate_succ, List.replicate_succ, List.flatten_cons, ih]; rfl
  rw [e]
  exact q
theorem cal_raised_word (B : Bi mg) (T : At K mg s_raised_word "raised_word")    : Cal Pg w K mg base s_raised_word "raised_word" 1 ["word", "more"] p_raised_word := by
  refine calW T sc_raised_word (fun _ _ _ _ _ _ us hl => match us, hl with | [_, _], _ => rfl) (by rintro ws U P ⟨l, k, rfl, _⟩; rfl) (fun f cdv A outer s H E hr gd => ?_)
  have hu : (A.deeper (envOfC "raised_word" (defScope s_raised_word) s.heap.objs.size f cdv)).units + 70 < cLine := by have := hr.un; omega
  refine ⟨_, (pss_one (ps_ret (pe_tup (pa_cons (pe_ix (ixT K) (pv 0) pe_int (fun _ _ => rfl)) (pa_cons (pe_op op_add (pe_ix (ixT K) (pv 0) pe_int (fun _ _ => rfl)) (pv 1)) pa_nil))))), fun ws U P h => ?_⟩
  try dsimp only [cxOf, Cx.nox]
  obtain ⟨w, m, rfl, q⟩ := h
  walk_at "tv"
  refine r2_ixT (x := .str (sign w.1)) rfl ?_
  walk_at "tv"
  refine r2_ixT (x := .int w.2) rfl ?_
  walk_at "tv"
  exact ⟨[.str (sign w.1), .int (w.2 + m)], rfl, by show 2 ≤ sizeLine; decide, q⟩
theorem cal_joined_words (B : Bi mg) (T : At K mg s_joined_words "joined_words") (c_raised_word : Cal Pg w K mg base s_raised_word "raised_word" 1 ["word", "more"] p_raised_word)   : Cal Pg w K mg base s_joined_words "joined_words" 2 ["one", "other"] p_joined_words := by
  refine calW T sc_joined_words (fun _ _ _ _ _ _ us hl => match us, hl with | [_, _], _ => rfl) (by rintro ws U P ⟨l, k, rfl, _⟩; rfl) (fun f cdv A outer s H E hr gd => ?_)
  have hu : (A.deeper (envOfC "joined_words" (defScope s_joined_words) s.heap.objs.size f cdv)).units + 70 < cLine := by have := hr.un; omega
  refine ⟨_, (pss_one (ps_ret (pe_callTy (bTup K) (by rfl) B.tuple (by decide +kernel) (pa_cons (pe_lc (own := [("part", 2), ("word", 3)]) rfl sc_joined_words.nd (piEnT K (by rfl) B.enumerate (pa_cons (pv 1) pa_nil)) (blkOk_by (N := N_joined_words) (sc := defScope s_joined_words) (by decide +kernel)) (fun _ _ _ _ _ => (pgT K (n := 2) rfl (pgs_cons (pg_name (i := 2) sc_joined_words.nd rfl (.inl rfl)) (pgs_cons (pg_name (i := 3) sc_joined_words.nd rfl (.inl rfl)) pgs_nil)))) (fun _ _ _ _ _ => pts_nil) (fun _ _ _ _ _ => (pe_ifExp (pt_cmpR op_eq (pe_ix (ixT K) (pv 3) pe_int (fun _ _ => rfl)) pe_str (nomark _)) (pe_callC c_raised_word hr gd (by rfl) (pa_cons (pe_ix (ixT K) (pv 0) (pv 2) (fun _ _ => rfl)) (pa_cons (pe_ix (ixT K) (pv 3) pe_int (fun _ _ => rfl)) pa_nil))) (pv 3)))) pa_nil)))), fun ws U P h => ?_⟩
  try dsimp only [cxOf, Cx.nox]
  obtain ⟨a, b, rfl, hz, hl, q⟩ := h
  walk_at "tv"
  refine ev_lcE (xs := b) (h := wd) (f := fun i w => wd (if w.1 then ((a.getD i (false, 0)).1, (a.getD i (false, 0)).2 + w.2) else w)) (own_tup (owns_cons gname_mono (own_name (by simp)) (owns_cons gname_mono (own_name (by simp)) owns_nil))) ?_
  walk_at "tv"
  refine ⟨rfl, small1000 (by omega), fun i w hn => ?_, ?_⟩
  · unfold Turn1
    refine gw_pair ?_
    walk_at "tv"
    refine ⟨rfl, ?_⟩
    walk_at "tv"
    refine r2_ixT (x := .str (sign w.1)) rfl ?_
    walk_at "tv"
    rw [sign_eqp]
    refine ⟨w.1, rfl, fun hw => ?_, fun hw => ?_⟩
    · have hi := leads_lt hl hn hw
      walk_at "tv"
      refine r2_ixT (x := wd (a.getD i (false, 0))) (atI_at (by simp [List.getD_eq_getElem?_getD, hi])) ?_
      walk_at "tv"
      refine r2_ixT (x := .int w.2) rfl ?_
      walk_at "tv"
      exact ⟨a.getD i (false, 0), w.2, rfl, by rw [if_pos hw], rfl⟩
    · walk_at "tv"
      rw [hw]
      exact ⟨rfl, rfl⟩
  · walk_at "tv"
    rw [show b.mapIdx (fun i w => wd (if w.1 then ((a.getD i (false, 0)).1, (a.getD i (false, 0)).2 + w.2) else w)) = (jn a b).map wd by rw [jn, map_mapIdx]]
    exact q
theorem cal__law_pot (B : Bi mg) (T : At K mg s__law_pot "_law_pot")    : Cal Pg w K mg base s__law_pot "_law_pot" 1 ["script", "place"] pPot := by
  refine calW T sc__law_pot (fun _ _ _ _ _ _ us hl => match us, hl with | [_, _], _ => rfl) (by rintro ws U P ⟨ns, i, rfl, _⟩; rfl) (fun f cdv A outer s H E hr gd => ?_)
  have hu : (A.deeper (envOfC "_law_pot" (defScope s__law_pot) s.heap.objs.size f cdv)).units + 70 < cLine := by have := hr.un; omega
  refine ⟨_, (pss_cons (ps_set (i := 2) sc__law_pot.nd rfl (.inl rfl) (pe_ifExp (pt_cmpR op_lt (pv 1) (pe_callB (bLen K) (by rfl) B.len (by decide +kernel) (pa_cons (pv 0) pa_nil)) (nomark _)) (pe_ix (ixL K) (pv 0) (pv 1) (fun _ _ => rfl)) (pe_op op_add (pe_op op_add (pe_op op_modN (pe_callB (bSum K rfl) (by rfl) B.sum (by decide +kernel) (pa_cons (pe_slice (slL K) (pv 0) po_none (po_some pe_int)) pa_nil)) pe_int) (pe_op op_mulW pe_int (pv 1))) pe_int)))
      (pss_cons (ps_set (i := 3) sc__law_pot.nd rfl (.inl rfl) (pe_op op_mulW (pe_op op_modN (pe_callTy b_int (by rfl) B.int (by decide +kernel) (pa_cons (pe_callB b_abs (by rfl) B.abs (by decide +kernel) (pa_cons (pv 2) pa_nil)) pa_nil)) (pe_op op_powG (pe_op op_powG pe_int pe_int) pe_int)) (pe_callTy b_int (by rfl) B.int (by decide +kernel) (pa_cons (pe_cmpR op_ge (pe_callB b_abs (by rfl) B.abs (by decide +kernel) (pa_cons (pv 2) pa_nil)) (pe_op op_powG pe_int pe_int) (nomark _)) pa_nil))))
      (pss_cons (ps_set (i := 4) sc__law_pot.nd rfl (.inl rfl) (pe_op op_modN (pe_callTy b_int (by rfl) B.int (by decide +kernel) (pa_cons (pv 2) pa_nil)) pe_int))
      (pss_one (ps_ret (pe_lst (pa_cons (pv 3) (pa_cons (pe_op op_modN (pe_callTy b_int (by rfl) B.int (by decide +kernel) (pa_cons (pe_op op_add (pe_op op_add (pe_op op_mulW (pv 4) pe_int) (pe_op op_mulW (pe_op op_mulW pe_int (pv 1)) (pv 1))) pe_int) pa_nil)) pe_int) (pa_cons pe_int pa_nil))))))))), fun ws U P h => ?_⟩
  try dsimp only [cxOf, Cx.nox]
  obtain ⟨ns, i, rfl, hi, q⟩ := h
  walk_at "tv"
  refine ⟨_, rfl, fun hlt => ?_, fun _ => ?_⟩
  · walk_at "tv"
    have hlt' : i < ns.length := by
      have z := of_decide_eq_true hlt
      simp only [List.length_map] at z
      omega
    refine r2_ixL (x := .int ns[i]) (atI_at (by simp [hlt'])) ?_
    generalize ns[i] = cell
    walk_at "tv"
    refine r2_intC (powG (i := 10) (n := 10) (k := 60) (by decide) (by decide) (by decide)) ?_
    walk_at "tv"
    have m0 : (0 : Int) < ((10 : Int) ^ Int.toNat 60) ^ Int.toNat 5 := by decide +kernel
    have m1 : (((10 : Int) ^ Int.toNat 60) ^ Int.toNat 5).natAbs < 2 ^ 1000 := by decide +kernel
    refine r2_intC (powG (i := (10 : Int) ^ Int.toNat 60) (n := 300) (k := 5) (by decide +kernel) (by decide) (by decide)) ?_
    generalize ((10 : Int) ^ Int.toNat 60) ^ Int.toNat 5 = M at m0 m1
    refine r2_intC (show M ≠ 0 by omega) ?_
    generalize (if cell < 0 then -cell else cell) = ab
    have r1 := fmod_rng (a := ab) m0
    walk_at "tv"
    refine r2_intC (powG (i := 10) (n := 10) (k := 18) (by decide) (by decide) (by decide)) ?_
    walk_at "tv"
    generalize hb : decide ((10 : Int) ^ Int.toNat 18 ≤ (if cell < 0 then -cell else cell)) = bb
    refine r2_intC (wide_mul (a := 1000) (b := 10) (Nat.lt_of_le_of_lt (by omega) m1) (by cases bb <;> decide) (by decide) (by decide) (by decide)) ?_
    have r2 : 0 ≤ ab.fmod M * b2i bb := Int.mul_nonneg r1.1 (by cases bb <;> decide)
    walk_at "tv"
    refine r2_intC (show (2305843009213693951 : Int) ≠ 0 by decide) ?_
    have r3 := fmod_rng (a := cell) (m := 2305843009213693951) (by decide)
    walk_at "tv"
    refine ev_lstM ?_
    walk_at "tv"
    refine r2_intC (wide_mul (a := 70) (b := 40) (by omega) (by decide) (by decide) (by decide) (by decide)) ?_
    walk_at "tv"
    refine r2_intC (wide_mul (a := 40) (b := 40) (by decide) (by omega) (by decide) (by decide) (by decide)) ?_
    walk_at "tv"
    refine r2_intC (wide_mul (a := 80) (b := 40) (by omega) (by omega) (by decide) (by decide) (by decide)) ?_
    walk_at "tv"
    refine r2_intC (show (2305843009213693921 : Int) ≠ 0 by decide) ?_
    walk_at "tv"
    refine ⟨by show 3 ≤ sizeLine; decide, fun p hp => ?_⟩
    have r4 := fmod_rng (a := Int.fmod cell 2305843009213693951 * 73063 + 8081 * (i : Int) * (i : Int) + 467) (m := 2305843009213693921) (by decide)
    exact q p _ hp ⟨_, _, 0, put_same, { a0 := r2, b0 := r4.1, b1 := r4.2, c0 := by decide, c1 := by decide }⟩ els_put
  · walk_at "tv"
    refine ⟨1, rfl, ?_⟩
    walk_at "tv"
    refine ⟨ns.map .int, rfl, ?_⟩
    walk_at "tv"
    rw [show cutD (ns.map PyData.int) none (some 1) = (ns.take 1).map .int by rw [show (1 : Int) = ((1 : Nat) : Int) from rfl, cutD_take, List.map_take]]
    refine rl_sum ?_
    walk_at "tv"
    refine r2_intC (show (1000003 : Int) ≠ 0 by decide) ?_
    walk_at "tv"
    refine r2_intC (wide_mul (a := 40) (b := 40) (by decide) (by omega) (by decide) (by decide) (by decide)) ?_
    walk_at "tv"
    generalize (Int.fmod (ns.take 1).sum 1000003 + 1051 * (i : Int) + 463 : Int) = cell
    walk_at "tv"
    refine r2_intC (powG (i := 10) (n := 10) (k := 60) (by decide) (by decide) (by decide)) ?_
    walk_at "tv"
    have m0 : (0 : Int) < ((10 : Int) ^ Int.toNat 60) ^ Int.toNat 5 := by decide +kernel
    have m1 : (((10 : Int) ^ Int.toNat 60) ^ Int.toNat 5).natAbs < 2 ^ 1000 := by decide +kernel
    refine r2_intC (powG (i := (10 : Int) ^ Int.toNat 60) (n := 300) (k := 5) (by decide +kernel) (by decide) (by decide)) ?_
    generalize ((10 : Int) ^ Int.toNat 60) ^ Int.toNat 5 = M at m0 m1
    refine r2_intC (show M ≠ 0 by omega) ?_
    generalize (if cell < 0 then -cell else cell) = ab
    have r1 := fmod_rng (a := ab) m0
    walk_at "tv"
    refine r2_intC (powG (i := 10) (n := 10) (k := 18) (by decide) (by decide) (by decide)) ?_
    walk_at "tv"
    generalize hb : decide ((10 : Int) ^ Int.toNat 18 ≤ (if cell < 0 then -cell else cell)) = bb
    refine r2_intC (wide_mul (a := 1000) (b := 10) (Nat.lt_of_le_of_lt (by omega) m1) (by cases bb <;> decide) (by decide) (by decide) (by decide)) ?_
    have r2 : 0 ≤ ab.fmod M * b2i bb := Int.mul_nonneg r1.1 (by cases bb <;> decide)
    walk_at "tv"
    refine r2_intC (show (2305843009213693951 : Int) ≠ 0 by decide) ?_
    have r3 := fmod_rng (a := cell) (m := 2305843009213693951) (by decide)
    walk_at "tv"
    refine ev_lstM ?_
    walk_at "tv"
    refine r2_intC (wide_mul (a := 70) (b := 40) (by omega) (by decide) (by decide) (by decide) (by decide)) ?_
    walk_at "tv"
    refine r2_intC (wide_mul (a := 40) (b := 40) (by decide) (by omega) (by decide) (by decide) (by decide)) ?_
    walk_at "tv"
    refine r2_intC (wide_mul (a := 80) (b := 40) (by omega) (by omega) (by decide) (by decide) (by decide)) ?_
    walk_at "tv"
    refine r2_intC (show (2305843009213693921 : Int) ≠ 0 by decide) ?_
    walk_at "tv"
    refine ⟨by show 3 ≤ sizeLine; decide, fun p hp => ?_⟩
    have r4 := fmod_rng (a := Int.fmod cell 2305843009213693951 * 73063 + 8081 * (i : Int) * (i : Int) + 467) (m := 2305843009213693921) (by decide)
    exact q p _ hp ⟨_, _, 0, put_same, { a0 := r2, b0 := r4.1, b1 := r4.2, c0 := by decide, c1 := by decide }⟩ els_put
theorem cal__law_take (B : Bi mg) (T : At K mg s__law_take "_law_take")    : Cal Pg w K mg base s__law_take "_law_take" 1 ["pot", "upto"] pTake := by
  refine calW T sc__law_take (fun _ _ _ _ _ _ us hl => match us, hl with | [_, _], _ => rfl) (by rintro ws U P ⟨p, n, m, rfl, _⟩; rfl) (fun f cdv A outer s H E hr gd => ?_)
  have hu : (A.deeper (envOfC "_law_take" (defScope s__law_take) s.heap.objs.size f cdv)).units + 70 < cLine := by have := hr.un; omega
  refine ⟨_, (pss_cons (ps_if (pt_cmpR op_gt (pe_ix (ixL K) (pv 0) pe_int (fun _ _ => rfl)) pe_int (nomark _))
        (pss_cons (ps_set (i := 2) sc__law_take.nd rfl (.inl rfl) (pe_op op_modN (pe_callTy b_int (by rfl) B.int (by decide +kernel) (pa_cons (pe_ix (ixL K) (pv 0) pe_int (fun _ _ => rfl)) pa_nil)) (pv 1)))
      (pss_cons (ps_asg (pe_op op_fdivN (pe_ix (ixL K) (pv 0) pe_int (fun _ _ => rfl)) (pv 1)) (pg_sub (pv 0) pe_int set_list))
      (pss_one (ps_ret (pv 2)))))
        pss_nil)
      (pss_cons (ps_asg (pe_op op_add (pe_ix (ixL K) (pv 0) pe_int (fun _ _ => rfl)) pe_int) (pg_sub (pv 0) pe_int set_list))
      (pss_cons (ps_set (i := 3) sc__law_take.nd rfl (.inl rfl) (pe_ix (ixL K) (pe_lst (pa_cons pe_int (pa_cons pe_int (pa_cons pe_int (pa_cons pe_int (pa_cons pe_int pa_nil)))))) (pe_op op_modN (pe_callTy b_int (by rfl) B.int (by decide +kernel) (pa_cons (pe_ix (ixL K) (pv 0) pe_int (fun _ _ => rfl)) pa_nil)) pe_int) (fun _ _ => rfl)))
      (pss_cons (ps_set (i := 4) sc__law_take.nd rfl (.inl rfl) (pe_op op_modN (pe_callTy b_int (by rfl) B.int (by decide +kernel) (pa_cons (pe_op op_powG (pe_callTy b_int (by rfl) B.int (by decide +kernel) (pa_cons (pe_op op_add (pe_op op_add (pe_ix (ixL K) (pv 0) pe_int (fun _ _ => rfl)) (pe_op op_mulW (pe_op op_mulW pe_int (pe_ix (ixL K) (pv 0) pe_int (fun _ _ => rfl))) (pe_ix (ixL K) (pv 0) pe_int (fun _ _ => rfl)))) pe_int) pa_nil)) pe_int) pa_nil)) (pv 3)))
      (pss_cons (ps_set (i := 4) sc__law_take.nd rfl (.inl rfl) (pe_op op_modN (pe_callTy b_int (by rfl) B.int (by decide +kernel) (pa_cons (pe_op op_mulW (pv 4) (pe_op op_add (pe_op op_modN (pe_callTy b_int (by rfl) B.int (by decide +kernel) (pa_cons (pv 4) pa_nil)) pe_int) (pe_op op_mulW pe_int (pe_ix (ixL K) (pv 0) pe_int (fun _ _ => rfl))))) pa_nil)) pe_int))
      (pss_one (ps_ret (pe_op op_modN (pe_callTy b_int (by rfl) B.int (by decide +kernel) (pa_cons (pe_op op_fdivN (pv 4) pe_int) pa_nil)) (pv 1))))))))), fun ws U P h => ?_⟩
  try dsimp only [cxOf, Cx.nox]
  obtain ⟨p, n, m, rfl, ⟨a, b, c, hU, hS⟩, hn, hm0, hm1, q⟩ := h
  have hc0 := hS.c0
  have hc1 := hS.c1
  have hb0 := hS.b0
  have hb1 := hS.b1
  walk_at "tv"
  refine r2_ixM (w := .i a) hU rfl ?_
  walk_at "tv"
  refine ⟨_, rfl, fun ht => ?_, fun hf => ?_⟩
  · walk_at "tv"
    refine r2_ixM (w := .i a) hU rfl ?_
    walk_at "tv"
    refine r2_intC (show m ≠ 0 by omega) ?_
    walk_at "tv"
    refine r2_ixM (w := .i a) hU rfl ?_
    walk_at "tv"
    refine r2_intC (show m ≠ 0 ∧ m.natAbs < 1073741824 from ⟨by omega, by omega⟩) ?_
    refine gw_sub ?_
    walk_at "tv"
    refine set_M (j := 0) hU rfl ?_
    walk_at "tv"
    have hd := fdiv_rng hS.a0 hm0
    have hr := fmod_rng (a := a) hm0
    exact q _ _ hr.1 hr.2 ⟨_, b, c, put_same, { a0 := hd.1, b0 := hb0, b1 := hb1, c0 := hc0, c1 := by omega }⟩ els_put
  · walk_at "tv"
    refine r2_ixM (w := .i c) hU rfl ?_
    walk_at "tv"
    refine gw_sub ?_
    walk_at "tv"
    refine set_M (j := 2) hU rfl ?_
    walk_at "tv"
    refine ev_lst ?_
    walk_at "tv"
    refine ⟨([2147483647, 2147483629, 2147483587, 2147483579, 2147483563] : List Int).map .int, rfl, by show 5 ≤ sizeLine; decide, ?_⟩
    walk_at "tv"
    refine r2_ixM (w := .i (c + 1)) put_same rfl ?_
    walk_at "tv"
    refine r2_intC (show (5 : Int) ≠ 0 by decide) ?_
    have h5 := fmod_rng (a := c + 1) (m := 5) (by decide)
    obtain ⟨pr, hpr, hat⟩ := prime_at (xs := [2147483647, 2147483629, 2147483587, 2147483579, 2147483563]) h5.1 (by show _ < (5 : Int); exact h5.2)
    have hp0 : 2 ≤ pr ∧ pr < 2147483648 := by
      simp only [List.mem_cons, List.not_mem_nil, or_false] at hpr
      omega
    refine r2_ixL hat ?_
    walk_at "tv"
    refine r2_ixM (w := .i b) put_same rfl ?_
    walk_at "tv"
    refine r2_ixM (w := .i (c + 1)) put_same rfl ?_
    have cb : (c + 1).natAbs < 2 ^ 40 := by omega
    refine r2_intC (wide_mul (a := 40) (b := 40) (by decide) cb (by decide) (by decide) (by decide)) ?_
    walk_at "tv"
    refine r2_ixM (w := .i (c + 1)) put_same rfl ?_
    have c2 := wide_lt (i := 98251) (j := c + 1) (a := 40) (b := 40) (by decide) cb
    refine r2_intC (wide_mul (a := 80) (b := 40) c2 cb (by decide) (by decide) (by decide)) ?_
    have c3 := wide_lt (j := c + 1) (b := 40) c2 cb
    generalize (98251 * (c + 1) * (c + 1) : Int) = t at c3
    walk_at "tv"
    refine r2_intC (powG (n := 200) (k := 3) (by omega) (by decide) (by decide)) ?_
    walk_at "tv"
    refine r2_intC (show pr ≠ 0 by omega) ?_
    generalize hbl : Int.fmod ((b + t + 443) ^ Int.toNat 3) pr = bl
    have hb2 := fmod_rng (a := (b + t + 443) ^ Int.toNat 3) (m := pr) (by omega)
    rw [hbl] at hb2
    walk_at "tv"
    refine r2_intC (show (10061 : Int) ≠ 0 by decide) ?_
    have hb3 := fmod_rng (a := bl) (m := 10061) (by decide)
    walk_at "tv"
    refine r2_ixM (w := .i (c + 1)) put_same rfl ?_
    refine r2_intC (wide_mul (a := 40) (b := 40) (by decide) cb (by decide) (by decide) (by decide)) ?_
    walk_at "tv"
    refine r2_intC (wide_mul (a := 40) (b := 100) (by omega) (by omega) (by decide) (by decide) (by decide)) ?_
    walk_at "tv"
    refine r2_intC (show (2305843009213693907 : Int) ≠ 0 by decide) ?_
    generalize hbx : Int.fmod (bl * (Int.fmod bl 10061 + 95 * (c + 1))) 2305843009213693907 = bx
    walk_at "tv"
    refine r2_intC (show (187 : Int) ≠ 0 ∧ (187 : Int).natAbs < 1073741824 by decide) ?_
    walk_at "tv"
    refine r2_intC (show m ≠ 0 by omega) ?_
    have hr := fmod_rng (a := bx.fdiv 187) hm0
    exact q _ _ hr.1 hr.2 ⟨a, b, c + 1, put_same, { a0 := hS.a0, b0 := hb0, b1 := hb1, c0 := by omega, c1 := by omega }⟩ els_put
theorem cal__law_cells (B : Bi mg) (T : At K mg s__law_cells "_law_cells")    : Cal Pg w K mg base s__law_cells "_law_cells" 1 ["script", "most"] (pCells 3) := by
  refine calW T sc__law_cells (fun _ _ _ _ _ _ us hl => match us, hl with | [_, _], _ => rfl) (by rintro ws U P ⟨ns, rfl, _⟩; rfl) (fun f cdv A outer s H E hr gd => ?_)
  have hu : (A.deeper (envOfC "_law_cells" (defScope s__law_cells) s.heap.objs.size f cdv)).units + 70 < cLine := by have := hr.un; omega
  refine ⟨_, (pss_one (ps_ret (pe_listRg rfl (by rfl) B.list (prg_1 (by rfl) B.range (pe_callB (b_max2 rfl) (by rfl) B.max (by decide +kernel) (pa_cons pe_int (pa_cons (pe_callB (b_min2 rfl) (by rfl) B.min (by decide +kernel) (pa_cons (pv 1) (pa_cons (pe_callB (bLen K) (by rfl) B.len (by decide +kernel) (pa_cons (pv 0) pa_nil)) pa_nil))) pa_nil))))))), fun ws U P h => ?_⟩
  try dsimp only [cxOf, Cx.nox]
  obtain ⟨ns, rfl, q⟩ := h
  walk_at "tv"
  refine ev_listRg1 ?_
  walk_at "tv"
  refine ⟨_, rfl, ?_, ?_⟩
  · unfold RgOk
    simp only [List.length_map]
    split <;> split <;> omega
  · have e : ∃ k : Nat, (if (if ((ns.map PyData.int).length : Int) < (3 : Nat) then ((ns.map PyData.int).length : Int) else (3 : Nat)) > 1 then (if ((ns.map PyData.int).length : Int) < (3 : Nat) then ((ns.map PyData.int).length : Int) else (3 : Nat)) else 1) = (k : Int) ∧ 1 ≤ k ∧ k ≤ 3 := by
      simp only [List.length_map]
      split <;> split <;> first
        | exact ⟨ns.length, rfl, by omega, by omega⟩
        | exact ⟨3, rfl, by decide, by decide⟩
        | exact ⟨1, rfl, by decide, by decide⟩
        | (exfalso; omega)
    obtain ⟨k, e, h1, h2⟩ := e
    have q' := q k h1 (Or.inl h2)
    exact e ▸ q'

end
end K21

namespace K21
open PySem PySem.Spec PyProof.Rows L2 RZ StX Tv

theorem joinL_mem {S : List Nat} {c : Nat} : ∀ {ps : List (List Nat)}, c ∈ TL.joinL S ps → c ∈ S ∨ ∃ p ∈ ps, c ∈ p
  | [], h => nomatch h
  | [p], h => .inr ⟨p, by simp, h⟩
  | p :: q :: r, h => by
    have h' : c ∈ p ++ (S ++ TL.joinL S (q :: r)) := h
    rcases List.mem_append.mp h' with z | z
    · exact .inr ⟨p, by simp, z⟩
    · rcases List.mem_append.mp z with z | z
      · exact .inl z
      · rcases joinL_mem z with y | ⟨x, y1, y2⟩
        · exact .inl y
        · exact .inr ⟨x, List.mem_cons_of_mem _ y1, y2⟩
theorem joinL_len {S : List Nat} {B : Nat} : ∀ {ps : List (List Nat)}, (∀ p ∈ ps, p.length ≤ B) → (TL.joinL S ps).length ≤ (B + S.length) * ps.length
  | [], _ => Nat.zero_le _
  | [p], h => by
    show p.length ≤ (B + S.length) * 1
    have := h p (by simp)
    omega
  | p :: q :: r, h => by
    show (p ++ (S ++ TL.joinL S (q :: r))).length ≤ _
    have ih := joinL_len (S := S) (ps := q :: r) fun x hx => h x (List.mem_cons_of_mem _ hx)
    have h1 := h p (by simp)
    rw [List.length_append, List.length_append]
    rw [List.length_cons, Nat.mul_succ]
    omega
/-- a word of a row -/
structure WdOk (w : Str) : Prop where
  no : ∀ c ∈ w.cps.toList, c ≠ 10 ∧ c ≠ 32
  few : w.length ≤ 20
theorem wd_name {s : Str} (h : NameOk s) : WdOk s := ⟨fun c hc => by have := h.let' c hc; omega, by have := h.hi; omega⟩
theorem wd_num {n : Nat} (h : n ≤ 3) : WdOk (toString (n : Int)) := ⟨fun c hc => by have := (num_ok h).fig c hc; omega, by have := (num_ok h).hi; omega⟩
theorem wd_wtext {w : Bool × Nat} (h : w.2 ≤ 3) : WdOk (wtext w) := by
  obtain ⟨b, n⟩ := w
  have h' : n ≤ 3 := h
  rcases (show n = 0 ∨ n = 1 ∨ n = 2 ∨ n = 3 by omega) with rfl | rfl | rfl | rfl <;> cases b <;> exact ⟨by decide +kernel, by decide +kernel⟩
theorem row_ok {ps : List (Str × Nat)} {ls : List Ln} (ok : OwnOk ps ls) {r : List Str} (hr : r ∈ rows ps ls) : r ≠ [] ∧ r.length ≤ 6 ∧ ∀ w ∈ r, WdOk w := by
  have pl : WdOk "place" := ⟨by decide +kernel, by decide +kernel⟩
  have li : WdOk "line" := ⟨by decide +kernel, by decide +kernel⟩
  rcases List.mem_append.mp hr with z | z
  · obtain ⟨p, hp, rfl⟩ := List.mem_map.mp z
    obtain ⟨n1, n2, n3⟩ := ok.nms p hp
    refine ⟨by simp, by simp, fun w hw => ?_⟩
    simp only [prow, List.mem_cons, List.not_mem_nil, or_false] at hw
    rcases hw with rfl | rfl | rfl
    · exact pl
    · exact wd_name n1
    · exact wd_num n3
  · obtain ⟨l, hl, rfl⟩ := List.mem_map.mp z
    obtain ⟨db, de, m1, m2, m3, m4⟩ := ok.lns l hl
    have d3 := (ok.nms _ m2).2.2
    refine ⟨by simp, ?_, fun w hw => ?_⟩
    · simp only [lrow, List.length_cons, List.length_map]
      have d3' : de ≤ 3 := d3
      omega
    · simp only [lrow, List.mem_cons, List.mem_map] at hw
      rcases hw with rfl | rfl | rfl | ⟨v, hv, rfl⟩
      · exact li
      · exact wd_name (ok.nms _ m1).1
      · exact wd_name (ok.nms _ m2).1
      · obtain ⟨k, hk⟩ := List.mem_iff_getElem?.mp hv
        exact wd_wtext (m4 k v hk).1
theorem tl_txt (y : Str) (r : List Str) : (Txt.join y r).cps.toList = TL.joinL y.cps.toList (r.map fun w => w.cps.toList) := by
  rw [TL.join_eq]
  exact TL.tl_join y r
theorem row_text {ps : List (Str × Nat)} {ls : List Ln} (ok : OwnOk ps ls) {r : List Str} (hr : r ∈ rows ps ls) : (∀ c ∈ (Txt.join (Str.ofString " ") r).cps.toList, c ≠ 10) ∧ (Txt.join (Str.ofString " ") r).length ≤ 126 := by
  obtain ⟨h1, h2, h3⟩ := row_ok ok hr
  have sp : (Str.ofString " ").cps.toList = [32] := by decide +kernel
  constructor
  · intro c hc
    rw [tl_txt, sp] at hc
    rcases joinL_mem hc with z | ⟨p, hp, z⟩
    · rw [List.mem_singleton.mp z]
      decide
    · obtain ⟨w, hw, rfl⟩ := List.mem_map.mp hp
      exact ((h3 w hw).no c z).1
  · rw [← str_len, tl_txt, sp]
    have a := joinL_len (S := [32]) (B := 20) (ps := r.map fun w => w.cps.toList) fun p hp => by
      obtain ⟨w, hw, rfl⟩ := List.mem_map.mp hp
      rw [str_len]
      exact (h3 w hw).few
    rw [List.length_map] at a
    have b : (20 + [32].length) * r.length ≤ 21 * 6 := Nat.mul_le_mul (by decide) h2
    omega
theorem text_ok {ps : List (Str × Nat)} {ls : List Ln} (ok : OwnOk ps ls) : TextOk ps ls := by
  have sp : (Str.ofString " ").cps.toList = [32] := by decide +kernel
  have nl : (Str.ofString "
").cps.toList = [10] := by decide +kernel
  refine ⟨?_, ?_, ?_, ?_⟩
  · refine TL.split_join nl (by decide +kernel) ?_ fun t ht => ?_
    · have := ok.one
      intro z
      have z2 := congrArg List.length z
      rw [List.length_map, rows, List.length_append, List.length_map] at z2
      simp only [List.length_nil] at z2
      omega
    · obtain ⟨r, hr, rfl⟩ := List.mem_map.mp ht
      exact fun z => (row_text ok hr).1 10 z rfl
  · intro r hr
    obtain ⟨h1, h2, h3⟩ := row_ok ok hr
    exact TL.split_join sp (by decide +kernel) h1 fun w hw z => ((h3 w hw).no 32 z).2 rfl
  · rw [← str_len, own_text, tl_txt, nl]
    have a := joinL_len (S := [10]) (B := 126) (ps := ((rows ps ls).map (Txt.join (Str.ofString " "))).map fun w => w.cps.toList) fun p hp => by
      obtain ⟨w, hw, rfl⟩ := List.mem_map.mp hp
      obtain ⟨r, hr, rfl⟩ := List.mem_map.mp hw
      rw [str_len]
      exact (row_text ok hr).2
    have few := ok.few
    have lf := ok.lf
    rw [List.length_map, List.length_map, rows, List.length_append, List.length_map, List.length_map] at a
    have b : (126 + [10].length) * (ps.length + ls.length) ≤ 127 * 36 := Nat.mul_le_mul (by decide) (by omega)
    rw [sizeLine_eq]
    simp only [rows] at a ⊢
    omega
  · intro r hr
    have := (row_text ok hr).2
    rw [sizeLine_eq]
    omega
theorem ne_tp : Str.ofString "text" ≠ Str.ofString "places" := by decide +kernel
theorem ne_tl : Str.ofString "text" ≠ Str.ofString "lines" := by decide +kernel
theorem ne_pl : Str.ofString "places" ≠ Str.ofString "lines" := by decide +kernel
theorem ownK_places {ps : List (Str × Nat)} {ls : List Ln} : getK (ownK ps ls) (.inr (Str.ofString "places")) = some (.l (ps.map fun p => .tuple [.str p.1, .int (p.2 : Int)])) := by
  rw [ownK, getK_cons, if_pos rfl]
theorem ownK_lines {ps : List (Str × Nat)} {ls : List Ln} : getK (ownK ps ls) (.inr (Str.ofString "lines")) = some (.l (ls.map lnD)) := by
  have ne : ¬ (Sum.inr (Str.ofString "places") : Key) = Sum.inr (Str.ofString "lines") := fun z => ne_pl (Sum.inr.inj z)
  rw [ownK, getK_cons, if_neg ne, getK_cons, if_pos rfl]
theorem dk_of {K : PySem.W.Frag} {U V : UU} {x : W} {kvs : List (Key × W)} (h : DkIs K U x kvs) (e : ∀ c b, U c = some b → V c = some b) : DkIs K V x kvs := by
  rcases h with ⟨a, rfl, hu⟩ | rfl
  · exact .inl ⟨a, rfl, e _ _ hu⟩
  · exact .inr rfl
theorem sum_le {B : Nat} : ∀ {r : List Str}, (∀ w ∈ r, w.length ≤ B) → (r.map (·.length)).sum ≤ B * r.length
  | [], _ => Nat.zero_le _
  | w :: r, h => by
    have ih := sum_le fun v hv => h v (List.mem_cons_of_mem _ hv)
    have h1 := h w (by simp)
    rw [List.map_cons, List.sum_cons, List.length_cons, Nat.mul_succ]
    omega
theorem row_sum {ps : List (Str × Nat)} {ls : List Ln} (ok : OwnOk ps ls) {r : List Str} (hr : r ∈ rows ps ls) : (r.map (·.length)).sum + r.length * (Str.ofString " ").length ≤ 16777216 := by
  obtain ⟨h1, h2, h3⟩ := row_ok ok hr
  have a := sum_le (B := 20) fun w hw => (h3 w hw).few
  have e : (Str.ofString " ").length = 1 := by decide +kernel
  rw [e]
  have b : 20 * r.length ≤ 20 * 6 := Nat.mul_le_mul (by decide) h2
  omega
theorem log_of {n : Nat} (h : n ≤ 3) : ((n : Int)).natAbs.log2 < 1920 := by
  rcases (show n = 0 ∨ n = 1 ∨ n = 2 ∨ n = 3 by omega) with rfl | rfl | rfl | rfl <;> decide +kernel
abbrev J (r : List Str) : Str := Txt.join (Str.ofString " ") r
/-- whether the line at i puts r, from p -/
def isN (ls : List Ln) (p r : Str × List Int) (i : Nat) : Bool := match ls[i]? with | some l => decide (l.1 = p.1) && puts l p.2 r | none => false
theorem nums_eq {ls : List Ln} {p r : Str × List Int} : nums ls p r = (List.range ls.length).filter (isN ls p r) := by
  rw [nums, frm, List.filter_filter]
  refine List.filter_congr fun i hi => ?_
  have hil : i < ls.length := List.mem_range.mp hi
  obtain ⟨l, hl⟩ : ∃ l, ls[i]? = some l := ⟨ls[i], by simp [hil]⟩
  have e0 : (ls.map (fun l : Ln => l.1)).getD i (Str.ofString "") = l.1 := by rw [List.getD_eq_getElem?_getD, List.getElem?_map, hl]; rfl
  rw [isN, hl, e0]
  show (puts l p.2 r && decide (l.1 = p.1)) = (decide (l.1 = p.1) && puts l p.2 r)
  exact Bool.and_comm _ _
theorem tm_depth : ∀ ns : List Int, PyData.depthAll (ns.map PyData.int) ≤ 0
  | [] => by simp [PyData.depthAll]
  | n :: ns => by
    have := tm_depth ns
    simp only [List.map_cons, PyData.depthAll, PyData.depth]
    omega
theorem tm_lay : ∀ ns : List Int, PyData.canLayAll0 (ns.map PyData.int) = true
  | [] => by simp [PyData.canLayAll0]
  | n :: ns => by simp [PyData.canLayAll0, PyData.canLay0, tm_lay ns]
theorem tm_shaped (ns : List Int) : SeqAt.shaped (tup ns) = true := by
  have h := tm_depth ns
  show ((tup ns).canLay0 && decide ((tup ns).depth ≤ 64)) = true
  rw [Bool.and_eq_true]
  refine ⟨by simp only [tup, PyData.canLay0]; exact tm_lay ns, decide_eq_true ?_⟩
  simp only [tup, PyData.depth]
  omega
theorem tm_eqvs : ∀ a b : List Int, PyData.eqvAll (a.map PyData.int) (b.map PyData.int) = decide (a = b)
  | [], [] => by simp [PyData.eqvAll]
  | [], _ :: _ => by simp [PyData.eqvAll]
  | _ :: _, [] => by simp [PyData.eqvAll]
  | x :: a, y :: b => by
    rw [List.map_cons, List.map_cons, PyData.eqvAll, tm_eqvs a b, PyData.eqv]
    by_cases h : x = y
    · subst h
      simp
    · simp [h]
theorem plK_at {b : Str} {d : Nat} : ∀ {ps : List (Str × Nat)}, (ps.map (·.1)).Nodup → (b, d) ∈ ps → getK (plK ps) (.inr b) = some (.i (d : Int))
  | [], _, h => nomatch h
  | p :: ps, nd, h => by
    rw [List.map_cons, List.nodup_cons] at nd
    rw [plK, List.map_cons, getK_cons]
    rcases List.mem_cons.mp h with e | e
    · subst e
      rw [if_pos rfl]
    · have ne : ¬ (Sum.inr p.1 : Key) = Sum.inr b := fun z => nd.1 (by rw [Sum.inr.inj z]; exact List.mem_map_of_mem (f := (·.1)) e)
      rw [if_neg ne]
      exact plK_at nd.2 e
theorem one_depth {ps : List (Str × Nat)} {b : Str} {d e : Nat} (nd : (ps.map (·.1)).Nodup) (h1 : (b, d) ∈ ps) (h2 : (b, e) ∈ ps) : d = e := by
  have a := plK_at nd h1
  rw [plK_at nd h2] at a
  injection a with a
  injection a with a
  injection a with a
  omega
theorem lead_of {ps : List (Str × Nat)} {ls : List Ln} {l : Ln} {p : Str × List Int} (ok : OwnOk ps ls) (hp : PtOk ps p) (hl : l ∈ ls) (e : l.1 = p.1) : leads (shI l.2.2) p.2.length = true ∧ l.2.2.length ≤ 100 := by
  obtain ⟨db, de, m1, m2, m3, m4⟩ := ok.lns l hl
  rw [e] at m1
  obtain rfl := one_depth ok.nd m1 hp.at'
  refine ⟨?_, by have := (ok.nms _ m2).2.2; omega⟩
  rw [leads, List.all_eq_true]
  intro w hw
  obtain ⟨k, hk⟩ := List.mem_iff_getElem?.mp hw
  rw [List.getElem?_drop, List.getElem?_map] at hk
  obtain ⟨v, hv, rfl⟩ := Option.map_eq_some_iff.mp hk
  have := (m4 _ v hv).2
  cases hb : v.1 with
  | false => rfl
  | true => have := this hb; omega
theorem planF_places {K : PySem.W.Frag} {ps : List (Str × Nat)} {ls : List Ln} : (planF K ps ls).lookup (Str.ofString "places") = some (W.pt K (plKv ps)) := by
  unfold planF
  rw [List.lookup_cons, show ((Str.ofString "places") == (Str.ofString "text")) = false by decide +kernel]
  show List.lookup (Str.ofString "places") [((Str.ofString "places"), W.pt K (plKv ps)), ((Str.ofString "lines"), W.t (ls.map lnD))] = _
  rw [List.lookup_cons, show ((Str.ofString "places") == (Str.ofString "places")) = true by decide +kernel]
theorem planF_lines {K : PySem.W.Frag} {ps : List (Str × Nat)} {ls : List Ln} : (planF K ps ls).lookup (Str.ofString "lines") = some (W.t (ls.map lnD)) := by
  unfold planF
  rw [List.lookup_cons, show ((Str.ofString "lines") == (Str.ofString "text")) = false by decide +kernel]
  show List.lookup (Str.ofString "lines") [((Str.ofString "places"), W.pt K (plKv ps)), ((Str.ofString "lines"), W.t (ls.map lnD))] = _
  rw [List.lookup_cons, show ((Str.ofString "lines") == (Str.ofString "places")) = false by decide +kernel]
  show List.lookup (Str.ofString "lines") [((Str.ofString "lines"), W.t (ls.map lnD))] = _
  rw [List.lookup_cons, show ((Str.ofString "lines") == (Str.ofString "lines")) = true by decide +kernel]
theorem am_ne {a b : List Int} (h : a.length ≠ b.length) : atMost a b = false := by
  unfold atMost
  simp [h]
theorem zip_all : ∀ a b : List Int, (List.zipWith (fun m s : Int => decide (m ≤ s)) a b).all id = (a.zip b).all fun p => decide (p.1 ≤ p.2)
  | [], _ => by simp
  | _ :: _, [] => by simp
  | x :: a, y :: b => by
    rw [List.zipWith_cons_cons, List.zip_cons_cons, List.all_cons, List.all_cons, zip_all a b]
    rfl

def p_law_at_most : PT' := fun ws U P => ∃ a b, ws = [.d (tm a), .d (tm b)] ∧ a.length ≤ 100 ∧ P (.b (atMost a b)) U
def p_law_shifted : PT' := fun ws U P => ∃ l ns, ws = [.d (sh l), .d (tm ns)] ∧ l.length ≤ 100 ∧ leads l ns.length = true ∧ P (.d (tm (mv l ns))) U

abbrev plD (p : Str × Nat) : PyData := .tuple [.str p.1, .int (p.2 : Int)]
def ABC : Str := Str.ofString "abcdefghijklmnopqrstuvwxyz"
theorem abc_mem {c : Nat} (h : c ∈ ABC.cps.toList) : 97 ≤ c ∧ c ≤ 122 := by
  have e : ABC.cps.toList = (List.range 26).map (· + 97) := by decide +kernel
  rw [e, List.mem_map] at h
  obtain ⟨k, hk, rfl⟩ := h
  have := List.mem_range.mp hk
  omega
theorem abc_nd : ABC.cps.toList.Nodup := by decide +kernel
theorem abc_len : ABC.cps.toList.length = 26 := by decide +kernel
def KWS : List Str := ["place", "line", "work", "hands", "deed", "over"]
theorem kws_ok {w : Str} (h : w ∈ KWS) : NameOk w := by
  simp only [KWS, List.mem_cons, List.not_mem_nil, or_false] at h
  rcases h with rfl | rfl | rfl | rfl | rfl | rfl <;> exact ⟨by decide +kernel, by decide +kernel, by decide +kernel⟩
theorem low7 {y : Int} (h : y ∈ ([0, 0, 0, 1, 2, 7] : List Int)) : ∃ k : Nat, y = (k : Int) ∧ k ≤ 7 := by
  simp only [List.mem_cons, List.not_mem_nil, or_false] at h
  exact ⟨y.toNat, by omega, by omega⟩
theorem dep6 {y : Int} (h : y ∈ ([1, 1, 1, 2, 2, 3] : List Int)) : ∃ k : Nat, y = (k : Int) ∧ 1 ≤ k ∧ k ≤ 3 := by
  simp only [List.mem_cons, List.not_mem_nil, or_false] at h
  exact ⟨y.toNat, by omega, by omega, by omega⟩
theorem join_nil : ∀ cs : List Nat, TL.joinL [] (cs.map fun c => [c]) = cs
  | [] => rfl
  | [c] => rfl
  | c :: d :: r => by
    show [c] ++ ([] ++ TL.joinL [] ((d :: r).map fun c => [c])) = _
    rw [join_nil (d :: r)]
    rfl
/-- the word of these letters -/
abbrev wordOf (cs : List Nat) : Str := Txt.join (Str.ofString "") (cs.map fun c => (⟨#[c]⟩ : Str))
theorem word_cs (cs : List Nat) : (wordOf cs).cps.toList = cs := by
  rw [wordOf, tl_txt, show (Str.ofString "").cps.toList = [] by decide +kernel, List.map_map]
  exact join_nil cs
theorem word_ok {cs : List Nat} (h1 : 1 ≤ cs.length) (h8 : cs.length ≤ 8) (hc : ∀ c ∈ cs, 97 ≤ c ∧ c ≤ 122) : NameOk (wordOf cs) :=
  ⟨by rw [← str_len, word_cs]; exact h1, by rw [← str_len, word_cs]; exact h8, by rw [word_cs]; exact hc⟩
theorem str_uncons {s : Str} (h : 1 ≤ s.length) : ∃ (c : Nat) (t : Str), s = ⟨#[c]⟩ ++ t ∧ s.cps.toList = c :: t.cps.toList := by
  have hl : s.cps.toList.length = s.length := str_len s
  cases e : s.cps.toList with
  | nil => rw [e] at hl; simp only [List.length_nil] at hl; omega
  | cons c l =>
    refine ⟨c, ⟨l.toArray⟩, ?_, by simp⟩
    have e2 : s.cps = #[c] ++ l.toArray := by
      rw [← Array.toList_inj, e]
      simp
    show s = ⟨#[c] ++ l.toArray⟩
    rw [← e2]
theorem cons_cs (c : Nat) (t : Str) : ((⟨#[c]⟩ : Str) ++ t).cps.toList = c :: t.cps.toList := by
  show ((#[c] : Array Nat) ++ t.cps).toList = _
  simp
theorem name_alt {w : Str} (h : NameOk w) {c : Nat} (hc : 97 ≤ c ∧ c ≤ 122) : NameOk (⟨#[c]⟩ ++ cutS w (some 1) none) := by
  obtain ⟨c0, t, rfl, e⟩ := str_uncons h.lo
  rw [cut_tail]
  have l1 : ((⟨#[c]⟩ : Str) ++ t).length = ((⟨#[c0]⟩ : Str) ++ t).length := by rw [← str_len, ← str_len, cons_cs, cons_cs]; rfl
  refine ⟨by rw [l1]; exact h.lo, by rw [l1]; exact h.hi, fun d hd => ?_⟩
  rw [cons_cs] at hd
  rcases List.mem_cons.mp hd with rfl | hd
  · exact hc
  · exact h.let' d (by rw [e]; exact List.mem_cons_of_mem _ hd)
/-- all words that are tried -/
abbrev alts (w : Str) : List Str := w :: ABC.cps.toList.map fun c => ⟨#[c]⟩ ++ cutS w (some 1) none
theorem alts_ok {w : Str} (h : NameOk w) {s : Str} (hs : s ∈ alts w) : NameOk s := by
  rcases List.mem_cons.mp hs with rfl | hs
  · exact h
  · obtain ⟨c, hc, rfl⟩ := List.mem_map.mp hs
    exact name_alt h (abc_mem hc)
theorem alts_new {w : Str} {ns : List Str} (hn : ns.length < 26) : ∃ s r, (alts w).filter (fun s => !decide (s ∈ ns)) = s :: r := by
  cases e : (alts w).filter (fun s => !decide (s ∈ ns)) with
  | cons s r => exact ⟨s, r, rfl⟩
  | nil =>
    exfalso
    have nd : (ABC.cps.toList.map fun c => (⟨#[c]⟩ : Str) ++ cutS w (some 1) none).Nodup := List.Pairwise.map _ (fun x y ne z => ne (by
      have z2 := congrArg (fun s : Str => s.cps.toList) z
      simp only [cons_cs] at z2
      exact (List.cons.inj z2).1)) abc_nd
    have m := mem_len (ys := ns) nd fun s hs => by
      have z : s ∈ alts w := List.mem_cons_of_mem _ hs
      have z2 := List.filter_eq_nil_iff.mp e s z
      simpa using z2
    rw [List.length_map, abc_len] at m
    omega
def p_law_names : PT' := fun ws U P => ∃ (a : Addr) (n m : Nat), ws = [.r a, .i (m : Int)] ∧ Pt U a n ∧ n + 20 * m < 100000 ∧ m ≤ 12 ∧
  ∀ (ns : List Str) U', ns.length = m → (∀ s ∈ ns, NameOk s) → ns.Nodup → Pt U' a (n + 20 * m) → Els a U U' → P (.l (ns.map .str)) U'
def LnOk (ps : List (Str × Nat)) (l : Ln) : Prop := ∃ db de, (l.1, db) ∈ ps ∧ (l.2.1, de) ∈ ps ∧ l.2.2.length = de ∧ ∀ i w, l.2.2[i]? = some w → w.2 ≤ 3 ∧ (w.1 = true → i < db)
def p_any_plan (K : PySem.W.Frag) : PT' := fun ws U P => ∃ (a : Addr) (n m : Nat), ws = [.r a, .i (m : Int)] ∧ Pt U a n ∧ n + 1000 < 100000 ∧ 1 ≤ m ∧ m ≤ 12 ∧
  ∀ (d : Addr) (ps : List (Str × Nat)) (ls : List Ln) U', d ≠ a → (∀ k, k ≤ 24 → OwnOk ps (ls.take k)) → ps.length ≤ m → ls.length ≤ 2 * ps.length + 1 → Pt U' a (n + 1000) → U' d = some (.k (ownK ps ls)) → U d = none → (∀ c, c ≠ a → c ≠ d → U' c = U c) → P (.r d) U'
def p_law_later (K : PySem.W.Frag) : PT' := fun ws U P => ∃ (a : Addr) (n : Nat) (x : W) (ps : List (Str × Nat)) (ls : List Ln) (p : Str × List Int), ws = [.r a, x, .d (ptD p)] ∧ Pt U a n ∧ n + 20 < 100000 ∧ DkIs K U x (ownK ps ls) ∧ OwnOk ps ls ∧ PtOk ps p ∧
  ∀ r U', PtOk ps r → Pt U' a (n + 20) → Els a U U' → P (.d (ptD r)) U'
def p_law_other (K : PySem.W.Frag) : PT' := fun ws U P => ∃ (a : Addr) (n : Nat) (x : W) (ps : List (Str × Nat)) (ls : List Ln) (p : Str × List Int), ws = [.r a, x, .d (ptD p)] ∧ Pt U a n ∧ n + 40 < 100000 ∧ DkIs K U x (ownK ps ls) ∧ OwnOk ps ls ∧ PtOk ps p ∧
  ∀ r U', PtOk ps r → Pt U' a (n + 40) → Els a U U' → P (.d (ptD r)) U'

theorem strOk_of {s : Str} (h : ∀ c ∈ s.cps.toList, c < 0x110000) : PyData.strOk s = true := by
  unfold PyData.strOk
  rw [← Array.all_toList]
  exact List.all_eq_true.mpr fun c hc => decide_eq_true (h c hc)
theorem strOk_name {s : Str} (h : NameOk s) : PyData.strOk s = true := strOk_of fun c hc => by have := h.let' c hc; omega
theorem strOk_sign (b : Bool) : PyData.strOk (sign b) = true := by cases b <;> decide +kernel
theorem ln_depth : ∀ l : List (Bool × Nat), PyData.depthAll (l.map fun w => PyData.tuple [.str (sign w.1), .int (w.2 : Int)]) ≤ 1
  | [] => by simp [PyData.depthAll]
  | w :: l => by
    have := ln_depth l
    simp only [List.map_cons, PyData.depthAll, PyData.depth]
    omega
theorem ln_lay : ∀ l : List (Bool × Nat), PyData.canLayAll0 (l.map fun w => PyData.tuple [.str (sign w.1), .int (w.2 : Int)]) = true
  | [] => by simp [PyData.canLayAll0]
  | w :: l => by simp [PyData.canLayAll0, PyData.canLay0, ln_lay l, strOk_sign]
theorem lns_depth : ∀ ls : List Ln, PyData.depthAll (ls.map lnD) ≤ 3
  | [] => by simp [PyData.depthAll]
  | l :: ls => by
    have := lns_depth ls
    have h := ln_depth l.2.2
    simp only [List.map_cons, PyData.depthAll, PyData.depth]
    omega
theorem lns_lay : ∀ {ls : List Ln}, (∀ l ∈ ls, NameOk l.1 ∧ NameOk l.2.1) → PyData.canLayAll0 (ls.map lnD) = true
  | [], _ => by simp [PyData.canLayAll0]
  | l :: ls, hl => by
    have h := ln_lay l.2.2
    have h1 := hl l (List.mem_cons_self ..)
    have h2 := lns_lay (ls := ls) fun x hx => hl x (List.mem_cons_of_mem _ hx)
    simp [PyData.canLayAll0, PyData.canLay0, h2, h, strOk_name h1.1, strOk_name h1.2]
theorem lns_shaped {ls : List Ln} (hl : ∀ l ∈ ls, NameOk l.1 ∧ NameOk l.2.1) : SeqAt.shaped (.list (ls.map lnD)) = true := by
  have h := lns_depth ls
  show ((PyData.list (ls.map lnD)).canLay0 && decide ((PyData.list (ls.map lnD)).depth ≤ 64)) = true
  rw [Bool.and_eq_true]
  refine ⟨by simp only [PyData.canLay0]; exact lns_lay hl, decide_eq_true ?_⟩
  simp only [PyData.depth]
  omega
theorem lns_nil (ls : List Ln) : PyData.eqv (.list (ls.map lnD)) (.list []) = decide (ls = []) := by
  cases ls with
  | nil => rfl
  | cons x xs => simp [PyData.eqv, PyData.eqvAll]
theorem mv_ok {l : List (Bool × Nat)} {ns : List Int} (h : ∀ n ∈ ns, 0 ≤ n) : ∀ x ∈ mv (shI l) ns, 0 ≤ x := by
  intro x hx
  rw [mv, List.mem_mapIdx] at hx
  obtain ⟨i, hi, rfl⟩ := hx
  have e : (shI l)[i] = ((l[i]'(by simpa using hi)).1, ((l[i]'(by simpa using hi)).2 : Int)) := by simp [shI]
  rw [e]
  have h2 : 0 ≤ ns.getD i 0 := by
    rw [List.getD_eq_getElem?_getD]
    cases e2 : ns[i]? with
    | none => exact Int.le_refl 0
    | some y => exact h y (List.mem_of_getElem? e2)
  show 0 ≤ if (l[i]'(by simpa using hi)).1 = true then ns.getD i 0 + ((l[i]'(by simpa using hi)).2 : Int) else ((l[i]'(by simpa using hi)).2 : Int)
  split <;> omega

theorem num_shaped (N : List Nat) : SeqAt.shaped (.tuple (N.map fun i : Nat => PyData.int (i : Int))) = true := by
  have h := tm_shaped (N.map fun i : Nat => (i : Int))
  rw [tup, List.map_map] at h
  exact h
theorem num_nil (N : List Nat) : PyData.eqv (.tuple (N.map fun i : Nat => PyData.int (i : Int))) (.tuple []) = decide (N = []) := by
  cases N with
  | nil => rfl
  | cons x xs => simp [PyData.eqv, PyData.eqvAll]
theorem num_ok2 {ls : List Ln} (h : ls.length ≤ 24) {p r : Str × List Int} : Ok 60 1 (.tuple ((nums ls p r).map fun i : Nat => PyData.int (i : Int))) := by
  have hl : (nums ls p r).length ≤ 24 := by
    rw [nums_eq]
    have := List.length_filter_le (isN ls p r) (List.range ls.length)
    rw [List.length_range] at this
    omega
  refine (ok_tup (okAll_of (n := 0) (k := 0) fun x hx => ?_)).mono ?_ (Nat.le_refl _)
  · obtain ⟨i, hi, rfl⟩ := List.mem_map.mp hx
    rw [nums_eq] at hi
    have := List.mem_range.mp (List.mem_filter.mp hi).1
    exact ok_int (by omega)
  · rw [List.length_map]
    omega
def p_right09 : PT' := fun ws U P => ∃ p, ws = [.r p] ∧ Pt U p 0 ∧ ∀ U', Els p U U' → P (.b true) U'

/-! ### any value -/
def aIB : PyData → Bool | .int _ => true | .bool _ => true | _ => false
def aInt : PyData → Bool | .int _ => true | _ => false
def aBl : PyData → Bool | .bool _ => true | _ => false
def aStr : PyData → Bool | .str _ => true | _ => false
def aTup : PyData → Bool | .tuple _ => true | _ => false
def aNat : PyData → Bool | .int i => decide (0 ≤ i) | _ => false
def aTime : PyData → Bool | .tuple xs => decide (1 ≤ xs.length) && (decide (xs.length ≤ 4) && xs.all aNat) | _ => false
theorem isi_int : ∀ d : PyData, kitB (tyName d) "int" = some (aIB d)
  | .none => by show kitB "NoneType" "int" = some false; decide +kernel
  | .bool _ => by show kitB "bool" "int" = some true; decide +kernel
  | .int _ => by show kitB "int" "int" = some true; decide +kernel
  | .str _ => by show kitB "str" "int" = some false; decide +kernel
  | .list _ => by show kitB "list" "int" = some false; decide +kernel
  | .tuple _ => by show kitB "tuple" "int" = some false; decide +kernel
  | .dict _ => by show kitB "dict" "int" = some false; decide +kernel
theorem isi_bool : ∀ d : PyData, kitB (tyName d) "bool" = some (aBl d)
  | .none => by show kitB "NoneType" "bool" = some false; decide +kernel
  | .bool _ => by show kitB "bool" "bool" = some true; decide +kernel
  | .int _ => by show kitB "int" "bool" = some false; decide +kernel
  | .str _ => by show kitB "str" "bool" = some false; decide +kernel
  | .list _ => by show kitB "list" "bool" = some false; decide +kernel
  | .tuple _ => by show kitB "tuple" "bool" = some false; decide +kernel
  | .dict _ => by show kitB "dict" "bool" = some false; decide +kernel
theorem isi_str : ∀ d : PyData, kitB (tyName d) "str" = some (aStr d)
  | .none => by show kitB "NoneType" "str" = some false; decide +kernel
  | .bool _ => by show kitB "bool" "str" = some false; decide +kernel
  | .int _ => by show kitB "int" "str" = some false; decide +kernel
  | .str _ => by show kitB "str" "str" = some true; decide +kernel
  | .list _ => by show kitB "list" "str" = some false; decide +kernel
  | .tuple _ => by show kitB "tuple" "str" = some false; decide +kernel
  | .dict _ => by show kitB "dict" "str" = some false; decide +kernel
theorem isi_tup : ∀ d : PyData, kitB (tyName d) "tuple" = some (aTup d)
  | .none => by show kitB "NoneType" "tuple" = some false; decide +kernel
  | .bool _ => by show kitB "bool" "tuple" = some false; decide +kernel
  | .int _ => by show kitB "int" "tuple" = some false; decide +kernel
  | .str _ => by show kitB "str" "tuple" = some false; decide +kernel
  | .list _ => by show kitB "list" "tuple" = some false; decide +kernel
  | .tuple _ => by show kitB "tuple" "tuple" = some true; decide +kernel
  | .dict _ => by show kitB "dict" "tuple" = some false; decide +kernel
theorem of_aInt {d : PyData} (h : aInt d = true) : ∃ i, d = .int i := by cases d <;> first | exact ⟨_, rfl⟩ | cases h
theorem of_aStr {d : PyData} (h : aStr d = true) : ∃ i, d = .str i := by cases d <;> first | exact ⟨_, rfl⟩ | cases h
theorem of_aTup {d : PyData} (h : aTup d = true) : ∃ i, d = .tuple i := by cases d <;> first | exact ⟨_, rfl⟩ | cases h
/-- whether it is the name of a place -/
def inPl (ps : List (Str × Nat)) : PyData → Bool | .str s => decide (s ∈ ps.map (·.1)) | _ => false
/-- tuples that are not long -/
def Few (d : PyData) : Prop := ∀ xs, d = .tuple xs → xs.length ≤ 100
def isPt (ps : List (Str × Nat)) : PyData → Bool
  | .tuple [.str s, .tuple ts] => aTime (.tuple ts) && decide ((s, ts.length) ∈ ps)
  | _ => false
def p_is_integer7 : PT' := fun ws U P => ∃ d, ws = [.d d] ∧ P (.b (aInt d)) U
def p_is_from_nought7 : PT' := fun ws U P => ∃ d, ws = [.d d] ∧ P (.b (aNat d)) U
def p_is_time7 : PT' := fun ws U P => ∃ d, ws = [.d d] ∧ Few d ∧ P (.b (aTime d)) U
/-! ### rows of places and of lines in any order -/
abbrev Row := (Str × Nat) ⊕ Ln
def plcs (rs : List Row) : List (Str × Nat) := rs.filterMap fun r => match r with | .inl p => some p | .inr _ => none
def lnes (rs : List Row) : List Ln := rs.filterMap fun r => match r with | .inl _ => none | .inr l => some l
def rwords : Row → List Str | .inl p => prow p | .inr l => lrow l
def mtext (rs : List Row) : Str := Txt.join (Str.ofString "\n") (rs.map fun r => J (rwords r))
theorem plcs_app (a b : List Row) : plcs (a ++ b) = plcs a ++ plcs b := List.filterMap_append
theorem lnes_app (a b : List Row) : lnes (a ++ b) = lnes a ++ lnes b := List.filterMap_append
theorem plcs_len : ∀ rs : List Row, rs.length = (plcs rs).length + (lnes rs).length
  | [] => rfl
  | .inl p :: rs => by
    have := plcs_len rs
    show rs.length + 1 = (p :: plcs rs).length + (lnes rs).length
    rw [List.length_cons]
    omega
  | .inr l :: rs => by
    have := plcs_len rs
    show rs.length + 1 = (plcs rs).length + (l :: lnes rs).length
    rw [List.length_cons]
    omega
theorem rw_mem {rs : List Row} {x : Row} (h : x ∈ rs) : rwords x ∈ rows (plcs rs) (lnes rs) := by
  cases x with
  | inl p => exact List.mem_append_left _ (List.mem_map_of_mem (f := prow) (List.mem_filterMap.mpr ⟨_, h, rfl⟩))
  | inr l => exact List.mem_append_right _ (List.mem_map_of_mem (f := lrow) (List.mem_filterMap.mpr ⟨_, h, rfl⟩))
structure MixOk (rs : List Row) : Prop where
  one : 1 ≤ (plcs rs).length
  few : (plcs rs).length ≤ 12
  nms : ∀ p ∈ plcs rs, NameOk p.1 ∧ 1 ≤ p.2 ∧ p.2 ≤ 3
  nd : ((plcs rs).map (·.1)).Nodup
  lf : (lnes rs).length ≤ 24
  kn : ∀ i l, rs[i]? = some (.inr l) → LnOk (plcs (rs.take i)) l
theorem rs_at {rs : List Row} {i : Nat} {x : Row} (h : rs[i]? = some x) : rs = rs.take i ++ x :: rs.drop (i + 1) := by
  obtain ⟨hi, e⟩ := List.getElem?_eq_some_iff.mp h
  rw [← e]
  simp
theorem take_sc {rs : List Row} {i : Nat} {x : Row} (h : rs[i]? = some x) : rs.take (i + 1) = rs.take i ++ [x] := by
  rw [List.take_add_one, h]
  rfl
theorem LnOk.mono {ps qs : List (Str × Nat)} {l : Ln} (h : LnOk ps l) (s : ∀ x ∈ ps, x ∈ qs) : LnOk qs l := by
  obtain ⟨db, de, a, b, c⟩ := h
  exact ⟨db, de, s _ a, s _ b, c⟩
theorem plcs_sub {rs : List Row} {i : Nat} : ∀ x ∈ plcs (rs.take i), x ∈ plcs rs := fun x hx => by
  have e : plcs rs = plcs (rs.take i) ++ plcs (rs.drop i) := by rw [← plcs_app, List.take_append_drop]
  rw [e]
  exact List.mem_append_left _ hx
theorem MixOk.own {rs : List Row} (m : MixOk rs) : OwnOk (plcs rs) (lnes rs) := by
  refine ⟨m.one, m.few, m.nms, m.nd, m.lf, fun l hl => ?_⟩
  obtain ⟨x, hx, e⟩ := List.mem_filterMap.mp hl
  cases x with
  | inl p => cases e
  | inr l' =>
    cases e
    obtain ⟨i, hi⟩ := List.mem_iff_getElem?.mp hx
    exact (m.kn i _ hi).mono plcs_sub
structure MText (rs : List Row) : Prop where
  rw1 : Txt.split (mtext rs) (Str.ofString "\n") = rs.map fun r => J (rwords r)
  wd : ∀ r ∈ rs, Txt.split (J (rwords r)) (Str.ofString " ") = rwords r
  len : (mtext rs).length + 2 ≤ sizeLine
  lens : ∀ r ∈ rs, (J (rwords r)).length + 2 ≤ sizeLine
theorem mtext_ok {rs : List Row} (m : MixOk rs) : MText rs := by
  have ok := m.own
  have sp : (Str.ofString " ").cps.toList = [32] := by decide +kernel
  have nl : (Str.ofString "\n").cps.toList = [10] := by decide +kernel
  refine ⟨?_, ?_, ?_, ?_⟩
  · refine TL.split_join nl (by decide +kernel) ?_ fun t ht => ?_
    · have h1 := m.one
      have h2 := plcs_len rs
      intro z
      have z2 := congrArg List.length z
      rw [List.length_map] at z2
      simp only [List.length_nil] at z2
      omega
    · obtain ⟨r, hr, rfl⟩ := List.mem_map.mp ht
      exact fun z => (row_text ok (rw_mem hr)).1 10 z rfl
  · intro r hr
    obtain ⟨h1, h2, h3⟩ := row_ok ok (rw_mem hr)
    exact TL.split_join sp (by decide +kernel) h1 fun w hw z => ((h3 w hw).no 32 z).2 rfl
  · rw [← str_len, mtext, tl_txt, nl]
    have a := joinL_len (S := [10]) (B := 126) (ps := (rs.map fun r => J (rwords r)).map fun w => w.cps.toList) fun p hp => by
      obtain ⟨w, hw, rfl⟩ := List.mem_map.mp hp
      obtain ⟨r, hr, rfl⟩ := List.mem_map.mp hw
      rw [str_len]
      exact (row_text ok (rw_mem hr)).2
    have few := m.few
    have lf := m.lf
    have h2 := plcs_len rs
    rw [List.length_map, List.length_map] at a
    have b : (126 + [10].length) * rs.length ≤ 127 * 36 := Nat.mul_le_mul (by decide) (by omega)
    rw [sizeLine_eq]
    omega
  · intro r hr
    have z : (J (rwords r)).length ≤ 126 := (row_text ok (rw_mem hr)).2
    rw [sizeLine_eq]
    omega
theorem mtext_len {rs : List Row} (m : MixOk rs) : (mtext rs).length ≤ 5000 := by
  have nl : (Str.ofString "\n").cps.toList = [10] := by decide +kernel
  rw [← str_len, mtext, tl_txt, nl]
  have a := joinL_len (S := [10]) (B := 126) (ps := (rs.map fun r => J (rwords r)).map fun w => w.cps.toList) fun p hp => by
    obtain ⟨w, hw, rfl⟩ := List.mem_map.mp hp
    obtain ⟨r, hr, rfl⟩ := List.mem_map.mp hw
    rw [str_len]
    exact (row_text m.own (rw_mem hr)).2
  have few := m.few
  have lf := m.lf
  have h2 := plcs_len rs
  rw [List.length_map, List.length_map] at a
  have b : (126 + [10].length) * rs.length ≤ 127 * 36 := Nat.mul_le_mul (by decide) (by omega)
  omega
/-- a plan by its text, places, lines -/
def plF7 (K : PySem.W.Frag) (tx : Str) (ps : List (Str × Nat)) (ls : List Ln) : List (Str × W) := [("text", .s tx), ("places", .pt K (plKv ps)), ("lines", .t (ls.map lnD))]
abbrev plT (K : PySem.W.Frag) (C : Addr) (tx : Str) (ps : List (Str × Nat)) (ls : List Ln) : W := .ob K C (plF7 K tx ps ls)
theorem pl7_text {K : PySem.W.Frag} {tx : Str} {ps : List (Str × Nat)} {ls : List Ln} : (plF7 K tx ps ls).lookup (Str.ofString "text") = some (.s tx) := by
  unfold plF7
  rw [List.lookup_cons, show ((Str.ofString "text") == (Str.ofString "text")) = true by decide +kernel]
theorem pl7_places {K : PySem.W.Frag} {tx : Str} {ps : List (Str × Nat)} {ls : List Ln} : (plF7 K tx ps ls).lookup (Str.ofString "places") = some (W.pt K (plKv ps)) := by
  unfold plF7
  rw [List.lookup_cons, show ((Str.ofString "places") == (Str.ofString "text")) = false by decide +kernel]
  show List.lookup (Str.ofString "places") (((Str.ofString "places"), W.pt K (plKv ps)) :: _) = _
  rw [List.lookup_cons, show ((Str.ofString "places") == (Str.ofString "places")) = true by decide +kernel]
theorem pl7_lines {K : PySem.W.Frag} {tx : Str} {ps : List (Str × Nat)} {ls : List Ln} : (plF7 K tx ps ls).lookup (Str.ofString "lines") = some (W.t (ls.map lnD)) := by
  unfold plF7
  rw [List.lookup_cons, show ((Str.ofString "lines") == (Str.ofString "text")) = false by decide +kernel]
  show List.lookup (Str.ofString "lines") [((Str.ofString "places"), W.pt K (plKv ps)), ((Str.ofString "lines"), W.t (ls.map lnD))] = _
  rw [List.lookup_cons, show ((Str.ofString "lines") == (Str.ofString "places")) = false by decide +kernel]
  show List.lookup (Str.ofString "lines") [((Str.ofString "lines"), W.t (ls.map lnD))] = _
  rw [List.lookup_cons, show ((Str.ofString "lines") == (Str.ofString "lines")) = true by decide +kernel]
theorem nd_inj {ps : List (Str × Nat)} (nd : (ps.map (·.1)).Nodup) {x y : Str × Nat} (hx : x ∈ ps) (hy : y ∈ ps) (e : y.1 = x.1) : x = y := by
  have a := plK_at nd (b := x.1) (d := x.2) hx
  have b := plK_at nd (b := x.1) (d := y.2) (by rw [← e]; exact hy)
  rw [a] at b
  have c : (x.2 : Int) = (y.2 : Int) := by
    have z := Option.some.inj b
    injection z with z
    injection z
  exact Prod.ext e.symm (by omega)
def p_rows7 (K : PySem.W.Frag) : PT' := fun ws U P => ∃ rs : List Row, ws = [.s (mtext rs)] ∧ MixOk rs ∧ P (.tw K [.pt K (plKv (plcs rs)), .t ((lnes rs).map lnD)]) U
def p_init7 (K : PySem.W.Frag) (C : Addr) : PT' := fun ws U P => ∃ (x dx : Addr) (rs : List Row), ws = [.r x, .s (mtext rs)] ∧ U x = some (.o C dx []) ∧ MixOk rs ∧ P (.d .none) (put U x (.o C dx (plF7 K (mtext rs) (plcs rs) (lnes rs))))
def p_in7 (K : PySem.W.Frag) (C : Addr) : PT' := fun ws U P => ∃ tx ps ls d, ws = [plT K C tx ps ls, .d d] ∧ ps.length ≤ 12 ∧ P (.b (inPl ps d)) U
def p_len7 (K : PySem.W.Frag) (C : Addr) : PT' := fun ws U P => ∃ tx ps ls, ws = [plT K C tx ps ls] ∧ ps.length ≤ 12 ∧ P (.i (ps.length : Nat)) U
def p_eq7 (K : PySem.W.Frag) (C : Addr) : PT' := fun ws U P => (∃ tx ps ls tx2 ps2 ls2, ws = [plT K C tx ps ls, plT K C tx2 ps2 ls2] ∧ P (.b (decide (tx = tx2))) U) ∨ ∃ tx ps ls d, ws = [plT K C tx ps ls, .d d] ∧ P (.b false) U
def p_check7 (K : PySem.W.Frag) (C : Addr) : PT' := fun ws U P => ∃ tx ps ls n, ws = [plT K C tx ps ls, .s n] ∧ ps.length ≤ 12 ∧ n ∈ ps.map (·.1) ∧ P (.d .none) U
def p_depth7 (K : PySem.W.Frag) (C : Addr) : PT' := fun ws U P => ∃ tx ps ls n d, ws = [plT K C tx ps ls, .s n] ∧ ps.length ≤ 12 ∧ (ps.map (·.1)).Nodup ∧ (n, d) ∈ ps ∧ P (.i (d : Int)) U
def p_is_point7 (K : PySem.W.Frag) (C : Addr) : PT' := fun ws U P => ∃ tx ps ls d, ws = [plT K C tx ps ls, .d d] ∧ ps.length ≤ 12 ∧ (ps.map (·.1)).Nodup ∧ Few d ∧ (∀ a b, d = .tuple [a, b] → Few b) ∧ P (.b (isPt ps d)) U
/-! ### texts of rows, lines that are taken away -/
theorem add_cs (a b : Str) : (a ++ b).cps.toList = a.cps.toList ++ b.cps.toList := by
  show (a.cps ++ b.cps).toList = _
  simp
theorem str_of_cs {a b : Str} (h : a.cps.toList = b.cps.toList) : a = b := by
  have e : a.cps = b.cps := Array.toList_inj.mp h
  cases a
  cases b
  simp only at e
  rw [e]
theorem add_len (a b : Str) : (a ++ b).length = a.length + b.length := by
  rw [← str_len, ← str_len, ← str_len, add_cs, List.length_append]
theorem place_txt (n t : Str) : ((Str.ofString "place " ++ n) ++ Str.ofString " ") ++ t = J ["place", n, t] := by
  apply str_of_cs
  have sp : (Str.ofString " ").cps.toList = [32] := by decide +kernel
  have p1 : (Str.ofString "place ").cps.toList = [112, 108, 97, 99, 101, 32] := by decide +kernel
  have p2 : (Str.ofString "place").cps.toList = [112, 108, 97, 99, 101] := by decide +kernel
  rw [add_cs, add_cs, add_cs, sp, p1, tl_txt, sp]
  show _ = (Str.ofString "place").cps.toList ++ ([32] ++ (n.cps.toList ++ ([32] ++ t.cps.toList)))
  rw [p2]
  simp
/-- how often -/
def cnt (v : Ln) (l : List Ln) : Nat := (l.filter fun x => decide (x = v)).length
theorem cnt_cons (v x : Ln) (l : List Ln) : cnt v (x :: l) = cnt v l + (if x = v then 1 else 0) := by
  unfold cnt
  rw [List.filter_cons]
  by_cases h : x = v
  · rw [if_pos (decide_eq_true h), if_pos h, List.length_cons]
  · rw [if_neg (by simp [h]), if_neg h, Nat.add_zero]
theorem cnt_mem {v : Ln} {l : List Ln} (h : 1 ≤ cnt v l) : v ∈ l := by
  unfold cnt at h
  cases e : l.filter fun x => decide (x = v) with
  | nil => rw [e] at h; simp only [List.length_nil] at h; omega
  | cons x r =>
    have m : x ∈ l.filter fun x => decide (x = v) := by rw [e]; exact List.mem_cons_self ..
    obtain ⟨a, b⟩ := List.mem_filter.mp m
    rwa [of_decide_eq_true b] at a
theorem cnt_erase : ∀ {l : List Ln} {j : Nat} {x : Ln}, l[j]? = some x → ∀ v, cnt v l = cnt v (l.eraseIdx j) + (if x = v then 1 else 0)
  | [], _, _, h, _ => by simp at h
  | y :: l, 0, x, h, v => by
    obtain rfl : y = x := by simpa using h
    exact cnt_cons v y l
  | y :: l, j + 1, x, h, v => by
    have h' : l[j]? = some x := by simpa using h
    show cnt v (y :: l) = cnt v (y :: l.eraseIdx j) + _
    rw [cnt_cons, cnt_cons, cnt_erase h' v]
    omega
theorem cnt_filter (v : Ln) (p : Ln → Bool) : ∀ l : List Ln, cnt v (l.filter p) ≤ cnt v l
  | [] => Nat.le_refl _
  | x :: l => by
    have ih := cnt_filter v p l
    rw [List.filter_cons, cnt_cons]
    split
    · rw [cnt_cons]
      omega
    · omega
theorem sg_inj {a b : Bool} (h : sign a = sign b) : a = b := by
  cases a <;> cases b <;> first | rfl | exact absurd h (by decide +kernel)
theorem wd_eqv (x y : Bool × Nat) (h : PyData.eqv (wdN x) (wdN y) = true) : x = y := by
  simp only [wdN, PyData.eqv, PyData.eqvAll, Bool.and_eq_true, beq_iff_eq, Bool.and_true] at h
  exact Prod.ext (sg_inj h.1) (by omega)
theorem wd_refl (x : Bool × Nat) : PyData.eqv (wdN x) (wdN x) = true := by
  simp [wdN, PyData.eqv, PyData.eqvAll]
theorem sh_eqv : ∀ a b : List (Bool × Nat), PyData.eqvAll (a.map wdN) (b.map wdN) = true → a = b
  | [], [], _ => rfl
  | [], _ :: _, h => by simp [PyData.eqvAll] at h
  | _ :: _, [], h => by simp [PyData.eqvAll] at h
  | x :: a, y :: b, h => by
    rw [List.map_cons, List.map_cons, PyData.eqvAll, Bool.and_eq_true] at h
    rw [wd_eqv x y h.1, sh_eqv a b h.2]
theorem sh_refl : ∀ a : List (Bool × Nat), PyData.eqvAll (a.map wdN) (a.map wdN) = true
  | [] => by simp [PyData.eqvAll]
  | x :: a => by
    rw [List.map_cons, PyData.eqvAll, wd_refl x, sh_refl a]
    rfl
theorem ln_eqv {a b : Ln} (h : PyData.eqv (lnD a) (lnD b) = true) : a = b := by
  simp only [lnD, PyData.eqv, PyData.eqvAll, Bool.and_eq_true, beq_iff_eq, Bool.and_true] at h
  exact Prod.ext h.1 (Prod.ext h.2.1 (sh_eqv _ _ h.2.2))
theorem ln_refl (a : Ln) : PyData.eqv (lnD a) (lnD a) = true := by
  have h : PyData.eqvAll (a.2.2.map wdN) (a.2.2.map wdN) = true := sh_refl _
  simp only [lnD, PyData.eqv, PyData.eqvAll, Bool.and_eq_true, beq_iff_eq, Bool.and_true]
  exact ⟨trivial, trivial, h⟩
theorem place_of {left : List Ln} {l : Ln} (h : l ∈ left) : ∃ j, SeqAt.dataPlace (left.map lnD) (lnD l) = some j ∧ left[j]? = some l := by
  unfold SeqAt.dataPlace
  cases e : (left.map lnD).findIdx? fun y => PyData.eqv y (lnD l) with
  | none =>
    have z := List.findIdx?_eq_none_iff.mp e (lnD l) (List.mem_map_of_mem h)
    rw [ln_refl] at z
    cases z
  | some j =>
    refine ⟨j, rfl, ?_⟩
    obtain ⟨hj, h1, _⟩ := List.findIdx?_eq_some_iff_getElem.mp e
    rw [List.length_map] at hj
    rw [List.getElem_map] at h1
    rw [List.getElem?_eq_getElem hj, ln_eqv h1]
theorem sh_plain : ∀ a : List (Bool × Nat), PyData.plainAll (a.map wdN) = true
  | [] => rfl
  | x :: a => by
    have ih := sh_plain a
    simp only [List.map_cons, PyData.plainAll, wdN, PyData.plain, ih, Bool.and_true, Bool.and_self]
theorem ln_plain (l : Ln) : (lnD l).plain = true := by
  have h := sh_plain l.2.2
  simp only [lnD, PyData.plain, PyData.plainAll, Bool.true_and, Bool.and_true]
  exact h
theorem lns_plain : ∀ ls : List Ln, PyData.plainAll (ls.map lnD) = true
  | [] => rfl
  | l :: ls => by
    rw [List.map_cons, PyData.plainAll, ln_plain l, lns_plain ls]
    rfl
theorem sh_dep : ∀ a : List (Bool × Nat), PyData.depthAll (a.map wdN) ≤ 1
  | [] => by simp [PyData.depthAll]
  | x :: a => by
    have ih := sh_dep a
    simp only [List.map_cons, PyData.depthAll, wdN, PyData.depth]
    omega
theorem ln_dep (l : Ln) : (lnD l).depth ≤ 60 := by
  have h := sh_dep l.2.2
  simp only [lnD, PyData.depth, PyData.depthAll]
  have h' : PyData.depthAll (l.2.2.map fun w => PyData.tuple [.str (sign w.1), .int (w.2 : Int)]) ≤ 1 := h
  omega
theorem cut_put {U : UU} {D : Addr} {b : Bx} (h : U D = none) : cut (put U D b) D = U := by
  funext e
  by_cases h1 : e = D
  · subst h1
    rw [cut_same, h]
  · rw [cut_ne h1, put_ne h1]
/-- the lines of rows are of what is known -/
def Kno (rs : List Row) : Prop := ∀ i l, rs[i]? = some (.inr l) → LnOk (plcs (rs.take i)) l
theorem Kno.add {rs : List Row} (k : Kno rs) {x : Row} (h : ∀ l, x = .inr l → LnOk (plcs rs) l) : Kno (rs ++ [x]) := fun i l hi => by
  by_cases c : i < rs.length
  · rw [List.getElem?_append_left c] at hi
    rw [List.take_append_of_le_length (Nat.le_of_lt c)]
    exact k i l hi
  · have e : i = rs.length := by
      have := (List.getElem?_eq_some_iff.mp hi).1
      rw [List.length_append, List.length_singleton] at this
      omega
    subst e
    rw [List.getElem?_append_right (Nat.le_refl _), Nat.sub_self] at hi
    rw [List.take_append_of_le_length (Nat.le_refl _), List.take_length]
    exact h l (by simpa using hi)
/-- where the rows' making stands -/
structure MxS (U V : UU) (a R L N Kn : Addr) (ls : List Ln) (rs : List Row) (left : List Ln) (m : Nat) : Prop where
  r : V R = some (.l ((rs.map fun r => PyData.str (J (rwords r))).map W.d))
  l : V L = some (.l ((left.map lnD).map W.d))
  n : V N = some (.l (((lnes rs).map lnD).map W.d))
  k : V Kn = some (.l ((((plcs rs).map (·.1)).map PyData.str).map W.d))
  pt : Pt V a m
  rest : ∀ c, c ≠ a → c ≠ R → c ≠ L → c ≠ N → c ≠ Kn → V c = U c
  len : (lnes rs).length + left.length = ls.length
  sub : ∀ x ∈ left, x ∈ ls
  kno : Kno rs
theorem MxS.els {U V V1 : UU} {a R L N Kn : Addr} {ls : List Ln} {rs : List Row} {left : List Ln} {m m' : Nat} (st : MxS U V a R L N Kn ls rs left m) (he : Els a V V1) (hP : Pt V1 a m') (n1 : a ≠ R) (n2 : a ≠ L) (n3 : a ≠ N) (n4 : a ≠ Kn) : MxS U V1 a R L N Kn ls rs left m' :=
  ⟨by rw [he R n1.symm]; exact st.r, by rw [he L n2.symm]; exact st.l, by rw [he N n3.symm]; exact st.n, by rw [he Kn n4.symm]; exact st.k, hP, fun c c0 c1 c2 c3 c4 => by rw [he c c0]; exact st.rest c c0 c1 c2 c3 c4, st.len, st.sub, st.kno⟩
theorem MxS.up {U V : UU} {a R L N Kn : Addr} {ls : List Ln} {rs : List Row} {left : List Ln} {m m' : Nat} (st : MxS U V a R L N Kn ls rs left m) (h : m ≤ m') : MxS U V a R L N Kn ls rs left m' := { st with pt := st.pt.mono h }
def p_mixed (K : PySem.W.Frag) : PT' := fun ws U P => ∃ (a d : Addr) (n : Nat) (ps : List (Str × Nat)) (ls : List Ln), ws = [.r a, .r d] ∧ a ≠ d ∧ U d = some (.k (ownK ps ls)) ∧ OwnOk ps ls ∧ Pt U a n ∧ n + 300 < 100000 ∧
  ∀ (rs : List Row) U', MixOk rs → plcs rs = ps → Pt U' a (n + 300) → Els a U U' → P (.t [.list (rs.map fun r => .str (J (rwords r))), .list ((lnes rs).map lnD)]) U'
def p_depth_own (K : PySem.W.Frag) : PT' := fun ws U P => ∃ x ps ls n d, ws = [x, .s n] ∧ DkIs K U x (ownK ps ls) ∧ ps.length ≤ 12 ∧ (ps.map (·.1)).Nodup ∧ (n, d) ∈ ps ∧ P (.i ((d : Nat) : Int)) U
/-! ### names that are never drawn -/
def NmX (s : Str) : Prop := s.length ≠ 6 ∧ s ≠ Str.ofString "zzzz"
def BaseOk (w : Str) : Prop := w ∈ KWS ∨ w.length = 1 ∨ w.length = 2 ∨ w.length = 3 ∨ w.length = 8
structure NameX (s : Str) : Prop where
  a : NameOk s
  b : NmX s
structure WordX (s : Str) : Prop where
  a : NameOk s
  b : BaseOk s
theorem low7x {y : Int} (h : y ∈ ([0, 0, 0, 1, 2, 7] : List Int)) : ∃ k : Nat, y = (k : Int) ∧ (k = 0 ∨ k = 1 ∨ k = 2 ∨ k = 7) := by
  simp only [List.mem_cons, List.not_mem_nil, or_false] at h
  exact ⟨y.toNat, by omega, by omega⟩
theorem len_x {s : Str} (h : s.length = 1 ∨ s.length = 2 ∨ s.length = 3 ∨ s.length = 8) : NmX s := by
  refine ⟨by omega, fun z => ?_⟩
  have e : (Str.ofString "zzzz").length = 4 := by decide +kernel
  rw [z, e] at h
  omega
theorem alts_x {w : Str} (k : WordX w) {s : Str} (hs : s ∈ alts w) : NmX s := by
  rcases List.mem_cons.mp hs with rfl | hs
  · rcases k.b with h | h
    · simp only [KWS, List.mem_cons, List.not_mem_nil, or_false] at h
      rcases h with rfl | rfl | rfl | rfl | rfl | rfl <;> exact ⟨by decide +kernel, by decide +kernel⟩
    · exact len_x h
  · obtain ⟨c, hc, rfl⟩ := List.mem_map.mp hs
    obtain ⟨c0, t, rfl, e⟩ := str_uncons k.a.lo
    rw [cut_tail]
    have l1 : ((⟨#[c]⟩ : Str) ++ t).length = ((⟨#[c0]⟩ : Str) ++ t).length := by rw [← str_len, ← str_len, cons_cs, cons_cs]; rfl
    rcases k.b with h | h
    · refine ⟨?_, fun z => ?_⟩
      · rw [l1]
        simp only [KWS, List.mem_cons, List.not_mem_nil, or_false] at h
        rcases h with h | h | h | h | h | h <;> rw [h] <;> decide +kernel
      · have z2 := congrArg (fun s : Str => s.cps.toList) z
        simp only [cons_cs] at z2
        have e4 : (Str.ofString "zzzz").cps.toList = 122 :: [122, 122, 122] := by decide +kernel
        rw [e4] at z2
        have z3 := (List.cons.inj z2).2
        simp only [KWS, List.mem_cons, List.not_mem_nil, or_false] at h
        have g : ∀ {x : Str}, (⟨#[c0]⟩ : Str) ++ t = x → x.cps.toList.tail = [122, 122, 122] := fun {x} ex => by
          rw [← ex, cons_cs]
          exact z3
        rcases h with h | h | h | h | h | h <;> exact absurd (g h) (by decide +kernel)
    · exact len_x (by rw [l1]; exact h)
def p_law_names7 : PT' := fun ws U P => ∃ (a : Addr) (n m : Nat), ws = [.r a, .i (m : Int)] ∧ Pt U a n ∧ n + 20 * m < 100000 ∧ m ≤ 12 ∧
  ∀ (ns : List Str) U', ns.length = m → (∀ s ∈ ns, NameX s) → ns.Nodup → Pt U' a (n + 20 * m) → Els a U U' → P (.l (ns.map .str)) U'
def p_any_plan7 (K : PySem.W.Frag) : PT' := fun ws U P => ∃ (a : Addr) (n m : Nat), ws = [.r a, .i (m : Int)] ∧ Pt U a n ∧ n + 1000 < 100000 ∧ 1 ≤ m ∧ m ≤ 12 ∧
  ∀ (d : Addr) (ps : List (Str × Nat)) (ls : List Ln) U', d ≠ a → (∀ k, k ≤ 24 → OwnOk ps (ls.take k)) → (∀ p ∈ ps, NmX p.1) → ps.length ≤ m → ls.length ≤ 2 * ps.length + 1 → Pt U' a (n + 1000) → U' d = some (.k (ownK ps ls)) → U d = none → (∀ c, c ≠ a → c ≠ d → U' c = U c) → P (.r d) U'
/-! ### values near to points -/
abbrev nv (v : PyData × Bool) : PyData := .tuple [v.1, .bool v.2]
def nears (p : Str × List Int) (o : Str × Nat) (big : Int) : List (PyData × Bool) :=
  [(.tuple [.str p.1, .tuple (p.2.map .int)], true), (.tuple [.str p.1, .tuple (p.2.map .int ++ [.int 0])], false), (.tuple [.str p.1, .tuple ((p.2.map .int).drop 1)], false), (.list [.str p.1, .tuple (p.2.map .int)], false)] ++
  [(.tuple [.str p.1, .list (p.2.map .int)], false), (.tuple [.str p.1, .tuple (p.2.map .int), .int 0], false), (.tuple [.str p.1], false), (.tuple [.tuple (p.2.map .int), .str p.1], false)] ++
  [(.tuple [.str p.1, .tuple ([.int (-1)] ++ (p.2.map .int).drop 1)], false), (.tuple [.str p.1, .tuple ([.bool true] ++ (p.2.map .int).drop 1)], false), (.str p.1, false), (.none, false)] ++
  [(.tuple [.str "nosuch", .tuple (p.2.map .int)], false), (.tuple [.str "", .tuple (p.2.map .int)], false), (.tuple [.int 0, .tuple (p.2.map .int)], false), (.tuple [.str p.1, .tuple []], false)] ++
  [(.tuple [.str o.1, .tuple (p.2.map .int)], decide ((o.2 : Int) = (p.2.length : Int)))] ++ [(.tuple [.str p.1, .tuple (List.replicate p.2.length [PyData.int big]).flatten], true)]
theorem isPt_eq (ps : List (Str × Nat)) (s : Str) (ts : List PyData) : isPt ps (.tuple [.str s, .tuple ts]) = (aTime (.tuple ts) && decide ((s, ts.length) ∈ ps)) := rfl
theorem few_tup {xs : List PyData} (h : xs.length ≤ 100) : Few (.tuple xs) := fun ys e => by cases e; exact h
theorem few_no {d : PyData} (h : aTup d = false) : Few d := fun ys e => by rw [e] at h; cases h
theorem all_nat : ∀ ns : List Int, (∀ x ∈ ns, 0 ≤ x) → (ns.map PyData.int).all aNat = true
  | [], _ => rfl
  | n :: ns, h => by
    rw [List.map_cons, List.all_cons, all_nat ns fun x hx => h x (List.mem_cons_of_mem _ hx), show aNat (.int n) = decide (0 ≤ n) from rfl, decide_eq_true (h n (List.mem_cons_self ..))]
    rfl
theorem flat_rep (n : Nat) (d : PyData) : (List.replicate n [d]).flatten = List.replicate n d := by
  induction n with
  | zero => rfl
  | succ n ih => rw [List.replicate_succ, List.replicate_succ, List.flatten_cons, ih]; rfl
theorem nears_ok {ps : List (Str × Nat)} {ls : List Ln} (ok : OwnOk ps ls) (nx : ∀ p ∈ ps, NmX p.1) {p : Str × List Int} (hp : PtOk ps p) {o : Str × Nat} (ho : o ∈ ps) {big : Int} (hb : 0 ≤ big) :
    ∀ v ∈ nears p o big, isPt ps v.1 = v.2 ∧ Few v.1 ∧ ∀ x y, v.1 = .tuple [x, y] → Few y := by
  have at1 := hp.at'
  have t1 := hp.tm'.1
  have t4 := hp.tm'.2.1
  have an := all_nat p.2 hp.tm'.2.2
  have tl : (p.2.map PyData.int).length = p.2.length := List.length_map ..
  have uni : ∀ k, k ≠ p.2.length → decide ((p.1, k) ∈ ps) = false := fun k h => decide_eq_false fun m => h (congrArg Prod.snd (nd_inj ok.nd m at1 rfl))
  have nn : ∀ {s : Str} {k : Nat}, ¬ NameOk s ∨ ¬ NmX s → decide ((s, k) ∈ ps) = false := fun h => decide_eq_false fun m => by
    rcases h with h | h
    · exact h (ok.nms _ m).1
    · exact h (nx _ m)
  have ti : aTime (.tuple (p.2.map .int)) = true := by
    rw [aTime, tl, decide_eq_true t1, decide_eq_true t4, an]
    rfl
  have f1 : Few (.tuple (p.2.map .int)) := few_tup (by rw [tl]; omega)
  have fd : ∀ {h : PyData}, Few (.tuple ([h] ++ (p.2.map PyData.int).drop 1)) := fun {h} => few_tup (by rw [List.length_append, List.length_drop, tl, List.length_singleton]; omega)
  have two : ∀ {a b : PyData}, Few b → Few (.tuple [a, b]) ∧ ∀ x y, PyData.tuple [a, b] = .tuple [x, y] → Few y := fun {a b} h => ⟨few_tup (by show 2 ≤ 100; decide), fun x y e => by cases e; exact h⟩
  intro v hv
  simp only [nears, List.mem_append, List.mem_cons, List.not_mem_nil, or_false] at hv
  rcases hv with (((((rfl | rfl | rfl | rfl) | (rfl | rfl | rfl | rfl)) | (rfl | rfl | rfl | rfl)) | (rfl | rfl | rfl | rfl)) | rfl) | rfl
  · exact ⟨by rw [isPt_eq, ti, tl, decide_eq_true at1]; rfl, two f1⟩
  · exact ⟨by rw [isPt_eq, List.length_append, tl, List.length_singleton, uni _ (by omega), Bool.and_false], two (few_tup (by rw [List.length_append, tl, List.length_singleton]; omega))⟩
  · exact ⟨by rw [isPt_eq, List.length_drop, tl, uni _ (by omega), Bool.and_false], two (few_tup (by rw [List.length_drop, tl]; omega))⟩
  · exact ⟨rfl, few_no rfl, fun x y e => by cases e⟩
  · exact ⟨rfl, two (few_no rfl)⟩
  · exact ⟨rfl, few_tup (by show 3 ≤ 100; decide), fun x y e => by cases e⟩
  · exact ⟨rfl, few_tup (by show 1 ≤ 100; decide), fun x y e => by cases e⟩
  · exact ⟨rfl, two (few_no rfl)⟩
  · refine ⟨?_, two fd⟩
    rw [isPt_eq, aTime, List.all_append, show ([PyData.int (-1)]).all aNat = false by decide, Bool.false_and, Bool.and_false, Bool.and_false, Bool.false_and]
  · refine ⟨?_, two fd⟩
    rw [isPt_eq, aTime, List.all_append, show ([PyData.bool true]).all aNat = false by decide, Bool.false_and, Bool.and_false, Bool.and_false, Bool.false_and]
  · exact ⟨rfl, few_no rfl, fun x y e => by cases e⟩
  · exact ⟨rfl, few_no rfl, fun x y e => by cases e⟩
  · exact ⟨by rw [isPt_eq, nn (.inr fun z => z.1 (by decide +kernel)), Bool.and_false], two f1⟩
  · exact ⟨by rw [isPt_eq, nn (.inl fun z => absurd z.lo (by decide +kernel)), Bool.and_false], two f1⟩
  · exact ⟨rfl, two f1⟩
  · exact ⟨by rw [isPt_eq]; rfl, two (few_tup (Nat.zero_le _))⟩
  · refine ⟨?_, two f1⟩
    rw [isPt_eq, ti, tl, Bool.true_and]
    by_cases h : o.2 = p.2.length
    · rw [decide_eq_true (by omega : (o.2 : Int) = (p.2.length : Int)), decide_eq_true (by rw [← h]; exact ho)]
    · rw [decide_eq_false (by omega : ¬ (o.2 : Int) = (p.2.length : Int)), decide_eq_false fun m => h ?_]
      exact (congrArg Prod.snd (nd_inj ok.nd m ho rfl)).symm
  · rw [flat_rep]
    refine ⟨?_, two (few_tup (by rw [List.length_replicate]; omega))⟩
    rw [isPt_eq, List.length_replicate, decide_eq_true at1, aTime, List.length_replicate, decide_eq_true t1, decide_eq_true t4]
    have e : (List.replicate p.2.length (PyData.int big)).all aNat = true := by
      rw [List.all_eq_true]
      intro x hx
      rw [(List.mem_replicate.mp hx).2]
      exact decide_eq_true hb
    rw [e]
    rfl
theorem cut1 (xs : List PyData) : cutD xs (some 1) none = xs.drop 1 := by
  rw [show (1 : Int) = ((1 : Nat) : Int) from rfl, cutD_drop]
theorem sw_ext {K : PySem.W.Frag} {ρ : Rho} {U : UU} {E : EndW} {i : Nat} {t : TA} {F : Addr} {ws : List W} (hr : ρ[i]? = some (some (.r F))) (hF : U F = some (.l ws)) (h : EA K t ρ U fun zs U1 => U1 = U ∧ ws.length + zs.length ≤ sizeLine ∧ E.nx ρ (put U F (.l (ws ++ zs)))) :
    SW K (tDrop (tBM K "list" rExtend (tVar i) (tCons (tLst t) tNil))) ρ U E :=
  sw_drop (ev_less (ev_bm (ev_var hr ⟨ty_M hF, ev_cons (ev_lstM (ea_mono (fun zs U1 ⟨e, hz, q⟩ => ⟨by omega, fun b hb => ev_nil (by
    subst e
    have nb : b ≠ F := fun z => by rw [z, hF] at hb; cases hb
    have hF2 : put U1 b (.l zs) F = some (.l ws) := by rw [put_ne nb.symm]; exact hF
    refine rm_extendM (b := b) hF2 put_same hz ⟨put U1 F (.l (ws ++ zs)), fun c x z => ?_, q⟩
    by_cases c1 : c = F
    · subst c1
      rw [put_same] at z ⊢
      exact z
    · rw [put_ne c1] at z ⊢
      rw [put_ne fun y => by rw [y, hb] at z; cases z]
      exact z)⟩) h))⟩)))
def p_near (K : PySem.W.Frag) : PT' := fun ws U P => ∃ (a d : Addr) (n : Nat) (ps : List (Str × Nat)) (ls : List Ln), ws = [.r a, .r d] ∧ a ≠ d ∧ U d = some (.k (ownK ps ls)) ∧ OwnOk ps ls ∧ (∀ p ∈ ps, NmX p.1) ∧ Pt U a n ∧ n + 20 < 100000 ∧
  ∀ (vs : List (PyData × Bool)) U', vs.length = 18 → (∀ v ∈ vs, isPt ps v.1 = v.2 ∧ Few v.1 ∧ ∀ x y, v.1 = .tuple [x, y] → Few y) → Pt U' a (n + 20) → Els a U U' → P (.l (vs.map nv)) U'
/-! ### one plan -/
theorem ownK_cut {ps : List (Str × Nat)} {ls : List Ln} : storeK (ownK ps ls) (.inr (Str.ofString "lines")) (.l (cutD (ls.map lnD) none (some 24))) = ownK ps (ls.take 24) := by
  have ne : ¬ (Sum.inr (Str.ofString "places") : Key) = Sum.inr (Str.ofString "lines") := fun z => ne_pl (Sum.inr.inj z)
  have e : cutD (ls.map lnD) none (some 24) = (ls.take 24).map lnD := by
    rw [show (24 : Int) = ((24 : Nat) : Int) from rfl, cutD_take, List.map_take]
  rw [e]
  unfold storeK ownK
  simp [ne]
def p_plan_right7 : PT' := fun ws U P => ∃ (a : Addr) (n m : Nat), ws = [.r a, .i (m : Int)] ∧ Pt U a n ∧ n + 1500 < 100000 ∧ 1 ≤ m ∧ m ≤ 12 ∧ ∀ U', Els a U U' → Pt U' a (n + 1500) → P (.b true) U'
theorem lowc {rs : List Row} (m : MixOk rs) {x : Row} (hx : x ∈ rs) {w : Str} (hw : w ∈ rwords x) {c : Nat} (hc : c ∈ w.cps.toList) : c < 200 := by
  have nmc : ∀ {s : Str}, NameOk s → c ∈ s.cps.toList → c < 200 := fun h h2 => by have := h.let' c h2; omega
  have nuc : ∀ {k : Nat}, k ≤ 3 → c ∈ (toString (k : Int) : Str).cps.toList → c < 200 := fun h h2 => by have := (num_ok h).fig c h2; omega
  have pl : c ∈ (Str.ofString "place").cps.toList → c < 200 := fun h => (show ∀ c ∈ (Str.ofString "place").cps.toList, c < 200 by decide +kernel) c h
  have li : c ∈ (Str.ofString "line").cps.toList → c < 200 := fun h => (show ∀ c ∈ (Str.ofString "line").cps.toList, c < 200 by decide +kernel) c h
  have ok := m.own
  cases x with
  | inl p =>
    have pm : p ∈ plcs rs := List.mem_filterMap.mpr ⟨_, hx, rfl⟩
    obtain ⟨n1, n2, n3⟩ := ok.nms p pm
    simp only [rwords, prow, List.mem_cons, List.not_mem_nil, or_false] at hw
    rcases hw with rfl | rfl | rfl
    · exact pl hc
    · exact nmc n1 hc
    · exact nuc n3 hc
  | inr l =>
    have lm : l ∈ lnes rs := List.mem_filterMap.mpr ⟨_, hx, rfl⟩
    obtain ⟨db, de, m1, m2, m3, m4⟩ := ok.lns l lm
    simp only [rwords, lrow, List.mem_cons, List.mem_map] at hw
    rcases hw with rfl | rfl | rfl | ⟨v, hv, rfl⟩
    · exact li hc
    · exact nmc (ok.nms _ m1).1 hc
    · exact nmc (ok.nms _ m2).1 hc
    · obtain ⟨k, hk⟩ := List.mem_iff_getElem?.mp hv
      rw [wtext, add_cs] at hc
      rcases List.mem_append.mp hc with z | z
      · exact (show ∀ b : Bool, ∀ c ∈ (sign b).cps.toList, c < 200 by intro b; cases b <;> decide +kernel) v.1 c z
      · exact nuc (m4 k v hk).1 z
theorem ok_text {rs : List Row} (m : MixOk rs) : Ok 5000 0 (.str (mtext rs)) := by
  refine ok_str (by have := mtext_len m; rw [← str_len] at this; simpa using this) ?_
  rw [List.all_eq_true]
  intro c hc
  refine decide_eq_true ?_
  have nl : (Str.ofString "\n").cps.toList = [10] := by decide +kernel
  have sp : (Str.ofString " ").cps.toList = [32] := by decide +kernel
  have h : c < 200 := by
    rw [mtext, tl_txt, nl] at hc
    rcases joinL_mem hc with z | ⟨q, hq, z⟩
    · rw [List.mem_singleton.mp z]
      decide
    · obtain ⟨w, hw, rfl⟩ := List.mem_map.mp hq
      obtain ⟨x, hx, rfl⟩ := List.mem_map.mp hw
      rw [tl_txt, sp] at z
      rcases joinL_mem z with z | ⟨q2, hq2, z⟩
      · rw [List.mem_singleton.mp z]
        decide
      · obtain ⟨w2, hw2, rfl⟩ := List.mem_map.mp hq2
        exact lowc m hx hw2 z
  exact Nat.lt_trans h (by decide)
theorem ok_name {s : Str} (h : NameOk s) : Ok 8 0 (.str s) := by
  refine ok_str (by have := h.hi; rw [← str_len] at this; simpa using this) ?_
  rw [List.all_eq_true]
  intro c hc
  have := h.let' c hc
  exact decide_eq_true (Nat.lt_of_le_of_lt this.2 (by decide))
theorem ok_small {k : Nat} (h : k ≤ 3) : Ok 0 0 (.int (k : Int)) := ok_int (by
  have : (k : Int).natAbs ≤ 3 := by omega
  exact Nat.lt_of_le_of_lt this (by decide))
theorem ok_plc {ps : List (Str × Nat)} {ls : List Ln} (ok : OwnOk ps ls) : Ok 132 2 (.tuple (ps.map fun p => PyData.tuple [.str p.1, .int (p.2 : Int)])) := by
  refine (ok_tup (n := (10 + 1) * (ps.map fun p => PyData.tuple [.str p.1, .int (p.2 : Int)]).length) (k := 1) (okAll_of fun x hx => ?_)).mono (by have := ok.few; rw [List.length_map]; omega) (Nat.le_refl _)
  obtain ⟨p, hp, rfl⟩ := List.mem_map.mp hx
  obtain ⟨n1, n2, n3⟩ := ok.nms p hp
  exact (ok_tup (okAll_cons (ok_name n1) (okAll_cons (ok_small n3) okAll_nil))).mono (by decide) (Nat.le_refl _)
theorem ok_lnd {ps : List (Str × Nat)} {ls : List Ln} (ok : OwnOk ps ls) {l : Ln} (hl : l ∈ ls) : Ok 31 3 (lnD l) := by
  obtain ⟨db, de, m1, m2, m3, m4⟩ := ok.lns l hl
  have d3 : de ≤ 3 := (ok.nms _ m2).2.2
  have sh : Ok 12 2 (shN l.2.2) := by
    refine (ok_tup (n := (3 + 1) * (l.2.2.map fun w => PyData.tuple [.str (sign w.1), .int (w.2 : Int)]).length) (k := 1) (okAll_of fun x hx => ?_)).mono (by rw [List.length_map]; omega) (Nat.le_refl _)
    obtain ⟨w, hw, rfl⟩ := List.mem_map.mp hx
    obtain ⟨k, hk⟩ := List.mem_iff_getElem?.mp hw
    have sg : Ok 1 0 (.str (sign w.1)) := by cases w.1 <;> exact ok_str (by decide +kernel) (by decide +kernel)
    exact (ok_tup (okAll_cons sg (okAll_cons (ok_small (m4 k w hk).1) okAll_nil))).mono (by decide) (Nat.le_refl _)
  exact (ok_tup (okAll_cons ((ok_name (ok.nms _ m1).1).mono (Nat.le_refl _) (by decide)) (okAll_cons ((ok_name (ok.nms _ m2).1).mono (Nat.le_refl _) (by decide)) (okAll_cons sh okAll_nil)))).mono (by decide) (Nat.le_refl _)
theorem ok_all3 {rs : List Row} (m : MixOk rs) : Ok 5903 5 (.tuple [.str (mtext rs), .tuple ((plcs rs).map fun p => PyData.tuple [.str p.1, .int (p.2 : Int)]), .tuple ((lnes rs).map lnD)]) := by
  have ok := m.own
  have ol : Ok 768 4 (.tuple ((lnes rs).map lnD)) := by
    refine (ok_tup (n := (31 + 1) * ((lnes rs).map lnD).length) (k := 3) (okAll_of fun x hx => ?_)).mono (by have := ok.lf; rw [List.length_map]; omega) (Nat.le_refl _)
    obtain ⟨l, hl, rfl⟩ := List.mem_map.mp hx
    exact ok_lnd ok hl
  exact (ok_tup (okAll_cons ((ok_text m).mono (Nat.le_refl _) (by decide)) (okAll_cons ((ok_plc ok).mono (Nat.le_refl _) (by decide)) (okAll_cons ol okAll_nil)))).mono (by decide) (Nat.le_refl _)
def farR : List Row := [.inl (Str.ofString "zzzz", 1)]
theorem far_ok : MixOk farR := by
  refine ⟨by decide, by decide, fun p hp => ?_, by simp [farR, plcs], by decide, fun i l h => ?_⟩
  · have e : p = (Str.ofString "zzzz", 1) := by simpa [farR, plcs] using hp
    subst e
    exact ⟨⟨by decide +kernel, by decide +kernel, by decide +kernel⟩, by decide, by decide⟩
  · match i with
    | 0 => simp [farR] at h
    | i + 1 => simp [farR] at h
theorem far_text : Str.ofString "place zzzz 1" = mtext farR := by decide +kernel
theorem far_ne {rs : List Row} (m : MixOk rs) (nx : ∀ p ∈ plcs rs, NmX p.1) : mtext rs ≠ mtext farR := fun e => by
  have t1 := mtext_ok m
  have t2 := mtext_ok far_ok
  have z := t1.rw1
  rw [e, t2.rw1] at z
  have z2 : [J (prow (Str.ofString "zzzz", 1))] = rs.map fun r => J (rwords r) := z
  have hl : rs.length = 1 := by
    have y := congrArg List.length z2
    rw [List.length_map] at y
    exact y.symm
  obtain ⟨x, rfl⟩ := List.length_eq_one_iff.mp hl
  have z3 : J (prow (Str.ofString "zzzz", 1)) = J (rwords x) := (List.cons.inj z2).1
  have w1 := t1.wd x (by simp)
  have w2 := t2.wd (.inl (Str.ofString "zzzz", 1)) (by simp [farR])
  rw [show J (rwords (.inl (Str.ofString "zzzz", 1))) = J (rwords x) from z3, w1] at w2
  cases x with
  | inl p =>
    have y : [Str.ofString "place", p.1, toString (p.2 : Int)] = [Str.ofString "place", Str.ofString "zzzz", toString ((1 : Nat) : Int)] := w2
    have y1 : p.1 = Str.ofString "zzzz" := (List.cons.inj (List.cons.inj y).2).1
    exact (nx p (by simp [plcs])).2 y1
  | inr l =>
    have y : Str.ofString "line" :: l.1 :: l.2.1 :: l.2.2.map wtext = [Str.ofString "place", Str.ofString "zzzz", toString ((1 : Nat) : Int)] := w2
    exact absurd (List.cons.inj y).1 (by decide +kernel)
theorem row_sums {rs : List Row} (m : MixOk rs) : ((rs.map fun r => J (rwords r)).map (·.length)).sum + (rs.map fun r => J (rwords r)).length * (Str.ofString "\n").length ≤ 16777216 := by
  have a := sum_le (B := 126) (r := rs.map fun r => J (rwords r)) fun w hw => by
    obtain ⟨r, hr, rfl⟩ := List.mem_map.mp hw
    exact (row_text m.own (rw_mem hr)).2
  have e : (Str.ofString "\n").length = 1 := by decide +kernel
  have few := m.few
  have lf := m.lf
  have h2 := plcs_len rs
  rw [List.length_map] at a ⊢
  rw [e]
  have b : 126 * rs.length ≤ 126 * 36 := Nat.mul_le_mul (by decide) (by omega)
  omega

/-! ### standings -/
abbrev nts (ss : List Nat) : PyData := .tuple (ss.map fun n : Nat => PyData.int (n : Int))
/-- a part's standing behind a word: 0 kept, 1 raised, 2 set -/
def sd (m : Nat) (w : Bool × Nat) : Nat := if w.1 then (if 0 < w.2 ∧ m = 0 then 1 else m) else 2
def stood (ss : List Nat) (l : List (Bool × Nat)) : List Nat := l.mapIdx fun i w => sd (ss.getD i 0) w
theorem stood_len (ss : List Nat) (l : List (Bool × Nat)) : (stood ss l).length = l.length := by simp [stood]
theorem stood_get {ss : List Nat} {l : List (Bool × Nat)} {i : Nat} {w : Bool × Nat} (h : l[i]? = some w) : (stood ss l)[i]? = some (sd (ss.getD i 0) w) := by simp [stood, h]
theorem stood_low {ss : List Nat} {l : List (Bool × Nat)} (h : ∀ m ∈ ss, m ≤ 2) : ∀ m ∈ stood ss l, m ≤ 2 := fun m hm => by
  obtain ⟨i, hi⟩ := List.mem_iff_getElem?.mp hm
  have hl : i < l.length := by
    have := (List.getElem?_eq_some_iff.mp hi).1
    rwa [stood_len] at this
  rw [stood_get (List.getElem?_eq_getElem hl)] at hi
  have e := (Option.some.inj hi).symm
  rw [e]
  unfold sd
  split
  · split
    · omega
    · rw [List.getD_eq_getElem?_getD]
      cases z : ss[i]? with
      | none => exact Nat.zero_le _
      | some k => exact h k (List.mem_of_getElem? z)
  · omega
/-- what a part's words along a way do to it, from never set and never raised on -/
def run (m : Nat) (ws : List (Bool × Nat)) : Nat := ws.foldl sd m
theorem run_two : ∀ (ws : List (Bool × Nat)), run 2 ws = 2
  | [] => rfl
  | w :: ws => by
    show run (sd 2 w) ws = 2
    rw [show sd 2 w = 2 by unfold sd; split; exact if_neg (by omega); rfl]
    exact run_two ws
theorem run_one : ∀ (ws : List (Bool × Nat)), run 1 ws = 1 ↔ ∀ w ∈ ws, w.1 = true
  | [] => ⟨fun _ => (fun _ h => nomatch h), fun _ => rfl⟩
  | w :: ws => by
    show run (sd 1 w) ws = 1 ↔ _
    cases z : w.1 with
    | true =>
      rw [show sd 1 w = 1 by unfold sd; rw [if_pos z]; exact if_neg (by omega), run_one ws]
      exact ⟨fun h x hx => (List.mem_cons.mp hx).elim (fun e => e ▸ z) (h x), fun h x hx => h x (List.mem_cons_of_mem _ hx)⟩
    | false =>
      rw [show sd 1 w = 2 by unfold sd; rw [if_neg (by rw [z]; exact Bool.false_ne_true)], run_two ws]
      exact ⟨fun h => by omega, fun h => by rw [h w List.mem_cons_self] at z; cases z⟩
theorem run_zero : ∀ (ws : List (Bool × Nat)), run 0 ws = 1 ↔ (∀ w ∈ ws, w.1 = true) ∧ ∃ w ∈ ws, 0 < w.2
  | [] => ⟨fun h => absurd (show (0 : Nat) = 1 from h) (by omega), fun h => (by obtain ⟨_, w, h, _⟩ := h; cases h)⟩
  | w :: ws => by
    show run (sd 0 w) ws = 1 ↔ _
    cases z : w.1 with
    | true =>
      by_cases y : 0 < w.2
      · rw [show sd 0 w = 1 by unfold sd; rw [if_pos z]; exact if_pos ⟨y, rfl⟩, run_one ws]
        exact ⟨fun h => ⟨fun x hx => (List.mem_cons.mp hx).elim (fun e => e ▸ z) (h x), w, List.mem_cons_self, y⟩, fun h x hx => h.1 x (List.mem_cons_of_mem _ hx)⟩
      · rw [show sd 0 w = 0 by unfold sd; rw [if_pos z]; exact if_neg fun c => y c.1, run_zero ws]
        constructor
        · rintro ⟨h, x, hx, g⟩
          exact ⟨fun x hx => (List.mem_cons.mp hx).elim (fun e => e ▸ z) (h x), x, List.mem_cons_of_mem _ hx, g⟩
        · rintro ⟨h, x, hx, g⟩
          refine ⟨fun x hx => h x (List.mem_cons_of_mem _ hx), x, ?_, g⟩
          rcases List.mem_cons.mp hx with e | e
          · rw [e] at g
            exact absurd g y
          · exact e
    | false =>
      rw [show sd 0 w = 2 by unfold sd; rw [if_neg (by rw [z]; exact Bool.false_ne_true)], run_two ws]
      exact ⟨fun h => by omega, fun h => by rw [h.1 w List.mem_cons_self] at z; cases z⟩
/-- where one line leads on from a place and what its parts stand at -/
def nxS (ls : List Ln) (a : Str × List Nat) : List (Str × List Nat) := (ls.filter fun l => decide (l.1 = a.1)).map fun l => (l.2.1, stood a.2 l.2.2)
theorem nxS_mem {ls : List Ln} {a b : Str × List Nat} : b ∈ nxS ls a ↔ ∃ l ∈ ls, l.1 = a.1 ∧ b = (l.2.1, stood a.2 l.2.2) := by
  rw [nxS, List.mem_map]
  constructor
  · rintro ⟨l, h, e⟩
    rw [List.mem_filter, decide_eq_true_eq] at h
    exact ⟨l, h.1, h.2, e.symm⟩
  · rintro ⟨l, h, g, e⟩
    exact ⟨l, List.mem_filter.mpr ⟨h, decide_eq_true g⟩, e.symm⟩
/-- the places a way of lines leads along -/
inductive Wy (ls : List Ln) (p : Str) : List Ln → Str → Prop
  | one {l : Ln} : l ∈ ls → l.1 = p → Wy ls p [l] l.2.1
  | go {w : List Ln} {q : Str} {l : Ln} : Wy ls p w q → l ∈ ls → l.1 = q → Wy ls p (w ++ [l]) l.2.1
def along (ss : List Nat) (w : List Ln) : List Nat := w.foldl (fun z l => stood z l.2.2) ss
theorem along_snoc (ss : List Nat) (w : List Ln) (l : Ln) : along ss (w ++ [l]) = stood (along ss w) l.2.2 := by rw [along, List.foldl_append]; rfl
theorem r1_wy {ls : List Ln} {p : Str} {ss : List Nat} {b : Str × List Nat} : Clo.R1 (nxS ls) (p, ss) b ↔ ∃ w, Wy ls p w b.1 ∧ b.2 = along ss w := by
  constructor
  · intro h
    induction h with
    | one h =>
      obtain ⟨l, hl, e, rfl⟩ := nxS_mem.mp h
      exact ⟨[l], .one hl e, rfl⟩
    | go _ h ih =>
      obtain ⟨w, hw, hs⟩ := ih
      obtain ⟨l, hl, e, rfl⟩ := nxS_mem.mp h
      exact ⟨w ++ [l], .go hw hl e, by rw [along_snoc, ← hs]⟩
  · rintro ⟨w, hw, hs⟩
    obtain ⟨q, z⟩ := b
    dsimp only at hw hs
    subst hs
    induction hw with
    | one hl e => exact .one (nxS_mem.mpr ⟨_, hl, e, rfl⟩)
    | go _ hl e ih => exact .go ih (nxS_mem.mpr ⟨_, hl, e, by rw [along_snoc]⟩)
/-- all standings of up to n parts -/
def stS : Nat → List (List Nat)
  | 0 => [[]]
  | n + 1 => [] :: ((stS n).flatMap fun s => [0 :: s, 1 :: s, 2 :: s])
theorem stS_mem : ∀ (n : Nat) (s : List Nat), s.length ≤ n → (∀ m ∈ s, m ≤ 2) → s ∈ stS n
  | 0, [], _, _ => List.mem_singleton.mpr rfl
  | 0, _ :: _, h, _ => absurd h (by simp)
  | _ + 1, [], _, _ => List.mem_cons_self
  | n + 1, m :: s, h, g => List.mem_cons_of_mem _ (List.mem_flatMap.mpr ⟨s, stS_mem n s (by simpa using h) (fun k hk => g k (List.mem_cons_of_mem _ hk)), by
    have := g m List.mem_cons_self
    have z : m = 0 ∨ m = 1 ∨ m = 2 := by omega
    rcases z with rfl | rfl | rfl <;> simp⟩)
theorem r1_all {ls : List Ln} {ps : List Str} {p : Str} {ss : List Nat} {b : Str × List Nat} (hl : ∀ l ∈ ls, l.2.1 ∈ ps ∧ l.2.2.length ≤ 3) (h0 : ∀ m ∈ ss, m ≤ 2) (h : Clo.R1 (nxS ls) (p, ss) b) : b ∈ ps.flatMap fun q => (stS 3).map fun s => (q, s) := by
  have low : ∀ m ∈ b.2, m ≤ 2 := by
    induction h with
    | one h =>
      obtain ⟨l, _, _, rfl⟩ := nxS_mem.mp h
      exact stood_low h0
    | go _ h ih =>
      obtain ⟨l, _, _, rfl⟩ := nxS_mem.mp h
      exact stood_low ih
  have inn : b.1 ∈ ps ∧ b.2.length ≤ 3 := by
    cases h with
    | one h =>
      obtain ⟨l, hm, _, rfl⟩ := nxS_mem.mp h
      exact ⟨(hl l hm).1, by rw [stood_len]; exact (hl l hm).2⟩
    | go _ h =>
      obtain ⟨l, hm, _, rfl⟩ := nxS_mem.mp h
      exact ⟨(hl l hm).1, by rw [stood_len]; exact (hl l hm).2⟩
  exact PB.prod_mem inn.1 (stS_mem 3 b.2 inn.2 low)
theorem all_len (ps : List Str) : (ps.flatMap fun q => (stS 3).map fun s => (q, s)).length = ps.length * 40 := by
  rw [PB.prod_len]
  rfl
def p_stood : PT' := fun ws U P => ∃ (ss : List Nat) (l : List (Bool × Nat)), ws = [.d (nts ss), .d (shN l)] ∧ l.length ≤ 100 ∧ (∀ i w, l[i]? = some w → w.1 = true → i < ss.length) ∧ P (.d (nts (stood ss l))) U
def p_standings (K : PySem.W.Frag) : PT' := fun ws U P => ∃ (x : W) (ps : List (Str × Nat)) (ls : List Ln) (n : Str) (dn : Nat), ws = [x, .s n] ∧ DkIs K U x (ownK ps ls) ∧ OwnOk ps ls ∧ (n, dn) ∈ ps ∧
  ∀ rs : List (List Nat), (∀ s, s ∈ rs ↔ ∃ w, Wy ls n w n ∧ s = along (List.replicate dn 0) w) → rs.length ≤ 480 → P (.l (rs.map nts)) U
def nodeD (a : Str × List Nat) : PyData := .tuple [.str a.1, nts a.2]
def kvN (fs : List (Str × List Nat)) : List (PyData × W) := fs.map fun a => (nodeD a, W.b true)
/-! ### keys of nodes -/
theorem keysOf_ints : ∀ ns : List Nat, keysOf (ns.map fun n : Nat => PyData.int (n : Int)) = ns.map fun n : Nat => NestedKey.num (n : Int)
  | [] => rfl
  | n :: ns => by rw [List.map_cons, List.map_cons, keysOf, Tv.keyOf, keysOf_ints ns]
theorem areKeys_ints : ∀ ns : List Nat, areKeys (ns.map fun n : Nat => PyData.int (n : Int)) = true
  | [] => rfl
  | n :: ns => by rw [List.map_cons, areKeys, isKey, areKeys_ints ns]; rfl
theorem depthAll_nums : ∀ ns : List Nat, NestedKey.depthAll (ns.map fun n : Nat => NestedKey.num (n : Int)) ≤ 1
  | [] => by simp [NestedKey.depthAll]
  | n :: ns => by
    have := depthAll_nums ns
    rw [List.map_cons, NestedKey.depthAll]
    simp [NestedKey.depth]
    exact this
theorem key_node (a : Str × List Nat) : Tv.keyOf (nodeD a) = .tup [.text a.1, .tup (a.2.map fun n : Nat => NestedKey.num (n : Int))] := by
  rw [nodeD, Tv.keyOf, keysOf, keysOf, keysOf, Tv.keyOf, Tv.keyOf, keysOf_ints]
theorem key_inj {a b : Str × List Nat} (h : Tv.keyOf (nodeD a) = Tv.keyOf (nodeD b)) : a = b := by
  rw [key_node, key_node] at h
  obtain ⟨x, xs⟩ := a
  obtain ⟨y, ys⟩ := b
  simp only [NestedKey.tup.injEq, List.cons.injEq, NestedKey.text.injEq, and_true] at h
  obtain ⟨rfl, h⟩ := h
  have e : xs = ys := by
    clear x
    induction xs generalizing ys with
    | nil => cases ys with
      | nil => rfl
      | cons _ _ => cases h
    | cons m ms ih => cases ys with
      | nil => cases h
      | cons k ks =>
        rw [List.map_cons, List.map_cons, List.cons.injEq, NestedKey.num.injEq] at h
        rw [ih ks h.2, show m = k by omega]
  rw [e]
theorem node_keys (a : Str × List Nat) : areKeys [.str a.1, nts a.2] = true := by
  rw [areKeys, areKeys, areKeys, isKey, isKey, areKeys_ints]
  rfl
theorem node_depth (a : Str × List Nat) : (Tv.keyOf (nodeD a)).depth ≤ 8 := by
  have := depthAll_nums a.2
  rw [key_node, NestedKey.depth, NestedKey.depthAll, NestedKey.depthAll, NestedKey.depthAll, NestedKey.depth, NestedKey.depth]
  omega
theorem key_mem {fs : List (Str × List Nat)} {a : Str × List Nat} : Tv.keyOf (nodeD a) ∈ ((kvN fs).map fun p : PyData × W => Tv.keyOf p.1) ↔ a ∈ fs := by
  rw [kvN, List.map_map, List.mem_map]
  constructor
  · rintro ⟨b, hb, e⟩
    rw [key_inj (a := a) (b := b) e.symm]
    exact hb
  · exact fun h => ⟨a, h, rfl⟩
theorem nts_alikeAll : ∀ (a b : List Nat), PySem.W.alikeAll (a.map fun n : Nat => PyData.int (n : Int)) (b.map fun n : Nat => PyData.int (n : Int)) = true
  | [], b => by cases b <;> rfl
  | _ :: _, [] => rfl
  | x :: xs, y :: ys => by rw [List.map_cons, List.map_cons, PySem.W.alikeAll, nts_alikeAll xs ys]; rfl
theorem nts_alike (a b : List Nat) : PySem.W.alike (nts a) (nts b) = true := by rw [nts, nts, PySem.W.alike]; exact nts_alikeAll a b
theorem wdN_alike (a b : Bool × Nat) : PySem.W.alike (.tuple [.str (sign a.1), .int (a.2 : Int)]) (.tuple [.str (sign b.1), .int (b.2 : Int)]) = true := by
  simp [PySem.W.alike, PySem.W.alikeAll]
theorem shN_alikeAll : ∀ (a b : List (Bool × Nat)), PySem.W.alikeAll (a.map fun w => .tuple [.str (sign w.1), .int (w.2 : Int)]) (b.map fun w => .tuple [.str (sign w.1), .int (w.2 : Int)]) = true
  | [], b => by cases b <;> rfl
  | _ :: _, [] => rfl
  | x :: xs, y :: ys => by rw [List.map_cons, List.map_cons, PySem.W.alikeAll, wdN_alike x y, shN_alikeAll xs ys]; rfl
theorem shN_alike (a b : List (Bool × Nat)) : PySem.W.alike (shN a) (shN b) = true := by rw [shN, shN, PySem.W.alike]; exact shN_alikeAll a b
/-! ### what a standing of 1 says -/
theorem wy_ch {ls : List Ln} {p q : Str} {w : List Ln} : Wy ls p w q ↔ w ≠ [] ∧ TB.Ch ls p w q := by
  constructor
  · intro h
    induction h with
    | one h e => exact ⟨by simp, h, e, rfl⟩
    | go _ h e ih => exact ⟨by simp, ih.2.app ⟨h, e, rfl⟩⟩
  · rintro ⟨h, g⟩
    have ch_wy : ∀ (w u : List Ln) (p r : Str), Wy ls r u p → TB.Ch ls p w q → Wy ls r (u ++ w) q := by
      intro w
      induction w with
      | nil =>
        intro u p r h c
        rw [List.append_nil]
        have e : p = q := c
        exact e ▸ h
      | cons l w ih =>
        intro u p r h c
        have := ih (u ++ [l]) l.2.1 r (.go h c.1 c.2.1) c.2.2
        rwa [List.append_assoc, List.singleton_append] at this
    cases w with
    | nil => exact absurd rfl h
    | cons l w => exact ch_wy w [l] l.2.1 p (.one g.1 g.2.1) g.2.2
def depOf (ps : List (Str × Nat)) (p : Str) : Nat := ((ps.find? fun x => decide (x.1 = p)).map (·.2)).getD 0
theorem depOf_eq {ps : List (Str × Nat)} (nd : (ps.map (·.1)).Nodup) {p : Str} {d : Nat} (h : (p, d) ∈ ps) : depOf ps p = d := by
  induction ps with
  | nil => cases h
  | cons x ps ih =>
    rw [List.map_cons, List.nodup_cons] at nd
    unfold depOf
    rw [List.find?_cons]
    by_cases z : x.1 = p
    · rw [decide_eq_true z]
      rcases List.mem_cons.mp h with e | e
      · rw [← e]; rfl
      · exact absurd (List.mem_map_of_mem (f := (·.1)) e) (by rw [← z] at *; exact nd.1)
    · rw [decide_eq_false z]
      rcases List.mem_cons.mp h with e | e
      · rw [← e] at z; exact absurd rfl z
      · exact ih nd.2 e
theorem ls_ok {ps : List (Str × Nat)} {ls : List Ln} (nd : (ps.map (·.1)).Nodup) (hp : ∀ p ∈ ps, p.2 ≤ 3) (h : ∀ l ∈ ls, LnOk ps l) : TB.LsOk ls (ps.map (·.1)) (depOf ps) where
  beg := fun l hl => by obtain ⟨db, de, a, b, c, d⟩ := h l hl; exact List.mem_map_of_mem (f := (·.1)) a
  fin := fun l hl => by obtain ⟨db, de, a, b, c, d⟩ := h l hl; exact List.mem_map_of_mem (f := (·.1)) b
  len := fun l hl => by obtain ⟨db, de, a, b, c, d⟩ := h l hl; rw [c, depOf_eq nd b]
  few := fun l hl => by obtain ⟨db, de, a, b, c, d⟩ := h l hl; rw [depOf_eq nd a]; exact d
  dp := fun p hp' => by
    obtain ⟨⟨n, d⟩, hx, rfl⟩ := List.mem_map.mp hp'
    rw [depOf_eq nd hx]
    exact hp _ hx
theorem along_len {ls : List Ln} {ps : List Str} {dep : Str → Nat} (ok : TB.LsOk ls ps dep) {p q : Str} {w : List Ln} {z : List Nat} (h : Wy ls p w q) : (along z w).length = dep q := by
  cases h with
  | one h _ => show (stood z _).length = _; rw [stood_len]; exact ok.len _ h
  | go _ h _ => rw [along_snoc, stood_len]; exact ok.len _ h
def AllT (k : Nat) (w : List Ln) : Prop := ∀ l ∈ w, ∃ m, l.2.2[k]? = some (true, m)
def SomeR (k : Nat) (w : List Ln) : Prop := ∃ l ∈ w, ∃ m, 0 < m ∧ l.2.2[k]? = some (true, m)
theorem along_key {ls : List Ln} {ps : List Str} {dep : Str → Nat} (ok : TB.LsOk ls ps dep) {p q : Str} {w : List Ln} (n : Nat) (h : Wy ls p w q) (k : Nat) :
    (AllT k w → SomeR k w → (along (List.replicate n 0) w)[k]? = some 1) ∧ (AllT k w → ¬ SomeR k w → (along (List.replicate n 0) w)[k]? = some 0) ∧ (¬ AllT k w → ∀ v, (along (List.replicate n 0) w)[k]? = some v → v = 2) := by
  induction h with
  | one hl e =>
    rename_i l
    have g0 : (List.replicate n 0).getD k 0 = 0 := by
      rw [List.getD_eq_getElem?_getD, List.getElem?_replicate]
      split <;> rfl
    show (_ → _ → (stood (List.replicate n 0) l.2.2)[k]? = _) ∧ (_ → _ → (stood (List.replicate n 0) l.2.2)[k]? = _) ∧ (_ → ∀ v, (stood (List.replicate n 0) l.2.2)[k]? = some v → _)
    refine ⟨fun a r => ?_, fun a r => ?_, fun a v hv => ?_⟩
    · obtain ⟨m, hm⟩ := a l (by simp)
      obtain ⟨l', hl', m', h1, h2⟩ := r
      rw [List.mem_singleton.mp hl', hm] at h2
      cases h2
      rw [stood_get hm, g0]
      simp [sd, h1]
    · obtain ⟨m, hm⟩ := a l (by simp)
      have h1 : ¬ 0 < m := fun y => r ⟨l, by simp, m, y, hm⟩
      rw [stood_get hm, g0]
      simp [sd, h1]
    · have hk : k < l.2.2.length := by
        have := (List.getElem?_eq_some_iff.mp hv).1
        rwa [stood_len] at this
      have hx : l.2.2[k]? = some l.2.2[k] := List.getElem?_eq_getElem hk
      rw [stood_get hx] at hv
      have e2 := (Option.some.inj hv).symm
      cases y : l.2.2[k].1 with
      | true => exact absurd (fun l' hl' => ⟨l.2.2[k].2, by rw [List.mem_singleton.mp hl', hx, ← y]⟩) a
      | false => rw [e2]; simp [sd, y]
  | go hw hl e ih =>
    rename_i w q l
    rw [along_snoc]
    have len := along_len (z := List.replicate n 0) ok hw
    have split : AllT k (w ++ [l]) ↔ AllT k w ∧ ∃ m, l.2.2[k]? = some (true, m) := ⟨fun a => ⟨fun l' h' => a l' (List.mem_append_left _ h'), a l (by simp)⟩, fun a l' h' => (List.mem_append.mp h').elim (a.1 l') fun y => by rw [List.mem_singleton.mp y]; exact a.2⟩
    refine ⟨fun a r => ?_, fun a r => ?_, fun a v hv => ?_⟩
    · obtain ⟨a1, m, hm⟩ := split.mp a
      rw [stood_get hm]
      by_cases r1 : SomeR k w
      · rw [List.getD_eq_getElem?_getD, ih.1 a1 r1]
        simp [sd]
      · obtain ⟨l', hl', m', h1, h2⟩ := r
        rcases List.mem_append.mp hl' with y | y
        · exact absurd ⟨l', y, m', h1, h2⟩ r1
        · rw [List.mem_singleton.mp y, hm] at h2
          cases h2
          rw [List.getD_eq_getElem?_getD, ih.2.1 a1 r1]
          simp [sd, h1]
    · obtain ⟨a1, m, hm⟩ := split.mp a
      have r1 : ¬ SomeR k w := fun ⟨l', hl', y⟩ => r ⟨l', List.mem_append_left _ hl', y⟩
      have h1 : ¬ 0 < m := fun y => r ⟨l, by simp, m, y, hm⟩
      rw [stood_get hm, List.getD_eq_getElem?_getD, ih.2.1 a1 r1]
      simp [sd, h1]
    · have hk : k < l.2.2.length := by
        have := (List.getElem?_eq_some_iff.mp hv).1
        rwa [stood_len] at this
      have hx : l.2.2[k]? = some l.2.2[k] := List.getElem?_eq_getElem hk
      rw [stood_get hx] at hv
      have e2 := (Option.some.inj hv).symm
      cases y : l.2.2[k].1 with
      | true =>
        have a1 : ¬ AllT k w := fun a1 => a (split.mpr ⟨a1, l.2.2[k].2, by rw [hx, ← y]⟩)
        have lt : k < (along (List.replicate n 0) w).length := by
          rw [len, ← e]
          exact (ok.few l hl k _ hx).2 y
        have z := ih.2.2 a1 _ (List.getElem?_eq_getElem lt)
        rw [e2, List.getD_eq_getElem?_getD, List.getElem?_eq_getElem lt, Option.getD_some, z]
        simp [sd, y]
      | false => rw [e2]; simp [sd, y]
/-- a standing has a 1 exactly if some part is never set and raised -/
theorem one_along {ls : List Ln} {ps : List Str} {dep : Str → Nat} (ok : TB.LsOk ls ps dep) {p q : Str} {w : List Ln} (n : Nat) (h : Wy ls p w q) : 1 ∈ along (List.replicate n 0) w ↔ ∃ k, TB.Rises k w := by
  constructor
  · intro hm
    obtain ⟨k, hk⟩ := List.mem_iff_getElem?.mp hm
    obtain ⟨a, b, c⟩ := along_key ok n h k
    by_cases x : AllT k w
    · by_cases y : SomeR k w
      · exact ⟨k, x, y⟩
      · rw [b x y] at hk
        cases hk
    · have := c x 1 hk
      omega
  · rintro ⟨k, x, y⟩
    exact List.mem_of_getElem? ((along_key ok n h k).1 x y)
theorem own_ls {ps : List (Str × Nat)} {ls : List Ln} (ok : OwnOk ps ls) : TB.LsOk ls (ps.map (·.1)) (depOf ps) := ls_ok ok.nd (fun p hp => (ok.nms p hp).2.2) ok.lns
theorem nodes_lay : ∀ {qs : List (Str × List Nat)}, (∀ a ∈ qs, NameOk a.1) → PyData.canLayAll0 (qs.map nodeD) = true
  | [], _ => by simp [PyData.canLayAll0]
  | a :: qs, h => by
    have intz : ∀ ns : List Nat, PyData.canLayAll0 (ns.map fun n : Nat => PyData.int (n : Int)) = true := fun ns => by
      induction ns with
      | nil => simp [PyData.canLayAll0]
      | cons n ns ih => simp [PyData.canLayAll0, PyData.canLay0, ih]
    have h2 := nodes_lay (qs := qs) fun x hx => h x (List.mem_cons_of_mem _ hx)
    simp [nodeD, PyData.canLayAll0, PyData.canLay0, h2, intz, strOk_name (h a List.mem_cons_self)]
theorem nodes_depth : ∀ qs : List (Str × List Nat), PyData.depthAll (qs.map nodeD) ≤ 2
  | [] => by simp [PyData.depthAll]
  | a :: qs => by
    have intz : ∀ ns : List Nat, PyData.depthAll (ns.map fun n : Nat => PyData.int (n : Int)) = 0 := fun ns => by
      induction ns with
      | nil => simp [PyData.depthAll]
      | cons n ns ih => simp [PyData.depthAll, PyData.depth, ih]
    have h2 := nodes_depth qs
    have h3 := intz a.2
    simp only [nodeD, List.map_cons, PyData.depthAll, PyData.depth]
    omega
theorem nodes_shaped {qs : List (Str × List Nat)} (h : ∀ a ∈ qs, NameOk a.1) : SeqAt.shaped (.list (qs.map nodeD)) = true := by
  have d := nodes_depth qs
  show ((PyData.list (qs.map nodeD)).canLay0 && decide ((PyData.list (qs.map nodeD)).depth ≤ 64)) = true
  rw [Bool.and_eq_true]
  refine ⟨by simp only [PyData.canLay0]; exact nodes_lay h, decide_eq_true ?_⟩
  simp only [PyData.depth]
  omega
theorem list_nil {α : Type} (f : α → PyData) (xs : List α) : PyData.eqv (.list (xs.map f)) (.list []) = decide (xs = []) := by
  cases xs with
  | nil => rfl
  | cons x xs => simp [PyData.eqv, PyData.eqvAll]
theorem perm_map_inv {α β : Type} {f : α → β} {l m : List β} (h : l.Perm m) : ∀ rs : List α, m = rs.map f → ∃ rs' : List α, rs'.Perm rs ∧ l = rs'.map f := by
  induction h with
  | nil =>
    intro rs e
    cases rs with
    | nil => exact ⟨[], .nil, rfl⟩
    | cons _ _ => cases e
  | cons x _ ih =>
    intro rs e
    cases rs with
    | nil => cases e
    | cons r rs =>
      rw [List.map_cons, List.cons.injEq] at e
      obtain ⟨rs', a, b⟩ := ih rs e.2
      exact ⟨r :: rs', a.cons _, by rw [e.1, b]; rfl⟩
  | swap x y l =>
    intro rs e
    match rs, e with
    | r :: r2 :: rs, e =>
      rw [List.map_cons, List.map_cons, List.cons.injEq, List.cons.injEq] at e
      exact ⟨r2 :: r :: rs, .swap _ _ _, by rw [e.1, e.2.1, e.2.2]; rfl⟩
  | trans _ _ ih1 ih2 =>
    intro rs e
    obtain ⟨rs', a, b⟩ := ih2 rs e
    obtain ⟨rs2, c, d⟩ := ih1 rs' b
    exact ⟨rs2, c.trans a, d⟩
/-- sorted data of one form -/
theorem srtD_map {α : Type} {f : α → PyData} (xs : List α) : ∃ ys : List α, ys.Perm xs ∧ srtD (xs.map f) = ys.map f := perm_map_inv (List.mergeSort_perm _ _) xs rfl
theorem nts_depth (ns : List Nat) : (nts ns).depth ≤ 60 := by
  have : PyData.depthAll (ns.map fun n : Nat => PyData.int (n : Int)) = 0 := by
    induction ns with
    | nil => simp [PyData.depthAll]
    | cons n ns ih => simp [PyData.depthAll, PyData.depth, ih]
  rw [nts, PyData.depth, this]
  omega
theorem rep_ints (dn : Nat) : (List.replicate ((dn : Nat) : Int).toNat [PyData.int 0]).flatten = (List.replicate dn 0).map fun k : Nat => PyData.int (k : Int) := by
  rw [Int.toNat_natCast]
  induction dn with
  | zero => rfl
  | succ m ih => rw [List.replicate_succ, List.flatten_cons, ih, List.replicate_succ]; rfl
theorem wy_fin {ls : List Ln} {p q : Str} {w : List Ln} (h : Wy ls p w q) : ∃ l ∈ ls, q = l.2.1 := by
  induction h with
  | one h _ => exact ⟨_, h, rfl⟩
  | go _ h _ _ => exact ⟨_, h, rfl⟩
theorem jn_len {a b : List (Bool × Int)} : (jn a b).length = b.length := by simp [jn]
theorem jn_get {a b : List (Bool × Int)} {i : Nat} {w : Bool × Int} (h : b[i]? = some w) : (jn a b)[i]? = some (if w.1 then ((a.getD i (false, 0)).1, (a.getD i (false, 0)).2 + w.2) else w) := by
  simp [jn, List.getElem?_mapIdx, h]
theorem some_of {α : Type} {l : List α} {i : Nat} (h : i < l.length) : ∃ w, l[i]? = some w := ⟨l[i], by simp [h]⟩
def p_law_joined : PT' := fun ws U P => ∃ a b, ws = [.d (sh a), .d (sh b)] ∧ b.length ≤ 100 ∧ leads b a.length = true ∧ P (.d (sh (jn a b))) U
abbrev wb (x y : Bool × Int) : Bool := !(decide (x.2 > y.2) || (x.1 && !y.1))
def below (a b : List (Bool × Int)) : Bool := (a.zip b).all fun p => wb p.1 p.2
theorem sign_two (a b : Bool) : decide (sign a = sign b) = decide (a = b) := by cases a <;> cases b <;> rfl
theorem wb_eq (x y : Bool × Int) : wb x y = (decide (x.2 ≤ y.2) && (decide (x.1 = y.1) || !x.1)) := by
  obtain ⟨a, n⟩ := x
  obtain ⟨b, m⟩ := y
  have e : decide (n > m) = !decide (n ≤ m) := by
    by_cases z : n ≤ m
    · rw [decide_eq_true z, decide_eq_false (by omega)]
      rfl
    · rw [decide_eq_false z, decide_eq_true (by omega)]
      rfl
  show (!(decide (n > m) || (a && !b))) = (decide (n ≤ m) && (decide (a = b) || !a))
  rw [e]
  cases decide (n ≤ m) <;> cases a <;> cases b <;> rfl
def p_law_is_below : PT' := fun ws U P => ∃ a b, ws = [.d (sh a), .d (sh b)] ∧ a.length ≤ 100 ∧ P (.b (decide (a.length = b.length) && below a b)) U

theorem shN_sh (l : List (Bool × Nat)) : shN l = sh (shI l) := by simp [shN, sh, shI, wd]
theorem jn_shI (a b : List (Bool × Nat)) : jn (shI a) (shI b) = shI (TB.jn a b) := by
  refine List.ext_getElem? fun i => ?_
  cases hb : b[i]? with
  | none =>
    have e1 : (shI b)[i]? = none := by simp [shI, hb]
    have e2 : (TB.jn a b)[i]? = none := by simp [TB.jn, hb]
    simp [jn, shI, TB.jn, hb]
  | some w =>
    have e1 : (shI b)[i]? = some (w.1, (w.2 : Int)) := by simp [shI, hb]
    have e2 := TB.jn_get (a := a) hb
    rw [jn_get e1, shI, List.getElem?_map, e2, Option.map_some]
    have g : (shI a).getD i (false, 0) = ((a.getD i (false, 0)).1, ((a.getD i (false, 0)).2 : Int)) := by
      rw [List.getD_eq_getElem?_getD, List.getD_eq_getElem?_getD, shI, List.getElem?_map]
      cases a[i]? <;> rfl
    rw [g]
    cases z : w.1 <;> simp [z]
theorem below_shI (a b : List (Bool × Nat)) : (decide ((shI a).length = (shI b).length) && below (shI a) (shI b)) = TB.blB a b := by
  unfold TB.blB below
  rw [shI, shI, List.length_map, List.length_map]
  congr 1
  rw [List.zip_map, List.all_map]
  congr 1
  funext p
  show wb (p.1.1, (p.1.2 : Int)) (p.2.1, (p.2.2 : Int)) = TB.wle p.1 p.2
  rw [wb_eq]
  unfold TB.wle
  simp
theorem leads_shI {l : List (Bool × Nat)} {k : Nat} (h : ∀ i w, l[i]? = some w → w.1 = true → i < k) : leads (shI l) k = true := by
  unfold leads
  rw [List.all_eq_true]
  intro x hx
  obtain ⟨i, hi⟩ := List.mem_iff_getElem?.mp hx
  rw [List.getElem?_drop, shI, List.getElem?_map] at hi
  cases hb : l[k + i]? with
  | none => rw [hb] at hi; cases hi
  | some w =>
    rw [hb, Option.map_some] at hi
    obtain rfl := Option.some.inj hi
    cases z : w.1 with
    | false => simp [z]
    | true => have := h _ _ hb z; omega
abbrev nodeS (a : Str × List (Bool × Nat)) : PyData := .tuple [.str a.1, shN a.2]
theorem nodeS_lay : ∀ {qs : List (Str × List (Bool × Nat))}, (∀ a ∈ qs, NameOk a.1) → PyData.canLayAll0 (qs.map nodeS) = true
  | [], _ => by simp [PyData.canLayAll0]
  | a :: qs, h => by
    have h2 := nodeS_lay (qs := qs) fun x hx => h x (List.mem_cons_of_mem _ hx)
    simp [PyData.canLayAll0, PyData.canLay0, h2, ln_lay a.2, strOk_name (h a List.mem_cons_self)]
theorem nodeS_depth : ∀ qs : List (Str × List (Bool × Nat)), PyData.depthAll (qs.map nodeS) ≤ 3
  | [] => by simp [PyData.depthAll]
  | a :: qs => by
    have h2 := nodeS_depth qs
    have h3 := ln_depth a.2
    simp only [List.map_cons, PyData.depthAll, PyData.depth]
    omega
theorem nodeS_shaped {qs : List (Str × List (Bool × Nat))} (h : ∀ a ∈ qs, NameOk a.1) : SeqAt.shaped (.list (qs.map nodeS)) = true := by
  have d := nodeS_depth qs
  show ((PyData.list (qs.map nodeS)).canLay0 && decide ((PyData.list (qs.map nodeS)).depth ≤ 64)) = true
  rw [Bool.and_eq_true]
  refine ⟨by simp only [PyData.canLay0]; exact nodeS_lay h, decide_eq_true ?_⟩
  simp only [PyData.depth]
  omega
theorem shN_depth (l : List (Bool × Nat)) : (shN l).depth ≤ 60 := by
  have := ln_depth l
  rw [shN, PyData.depth]
  omega
/-- the known shifts by places -/
def fdK (ps : List (Str × Nat)) (kn : Str → List (List (Bool × Nat))) : List (Key × W) := ps.map fun p => (Sum.inr p.1, W.l ((kn p.1).map shN))
theorem fdK_get {ps : List (Str × Nat)} {kn : Str → List (List (Bool × Nat))} {n : Str} (h : n ∈ ps.map (·.1)) : getK (fdK ps kn) (.inr n) = some (W.l ((kn n).map shN)) := by
  induction ps with
  | nil => cases h
  | cons p ps ih =>
    rw [fdK, List.map_cons, getK_cons]
    by_cases z : p.1 = n
    · rw [if_pos (by rw [z]), z]
    · rw [if_neg fun y => z (Sum.inr.inj y)]
      rcases List.mem_cons.mp h with e | e
      · exact absurd e.symm z
      · exact ih e
theorem fdK_store {ps : List (Str × Nat)} {kn kn' : Str → List (List (Bool × Nat))} {n : Str} (h : n ∈ ps.map (·.1)) (e : ∀ q, q ≠ n → kn' q = kn q) : storeK (fdK ps kn) (.inr n) (W.l ((kn' n).map shN)) = fdK ps kn' := by
  have any : ((fdK ps kn).any fun kv => decide (kv.1 = .inr n)) = true := by
    obtain ⟨p, hp, e2⟩ := List.mem_map.mp h
    exact List.any_eq_true.mpr ⟨_, List.mem_map_of_mem (f := fun p : Str × Nat => ((Sum.inr p.1 : Key), W.l ((kn p.1).map shN))) hp, decide_eq_true (by rw [e2])⟩
  unfold storeK
  rw [if_pos any, fdK, fdK, List.map_map]
  refine List.map_congr_left fun p _ => ?_
  show (if (Sum.inr p.1 : Key) = .inr n then ((Sum.inr p.1 : Key), W.l ((kn' n).map shN)) else (Sum.inr p.1, W.l ((kn p.1).map shN))) = _
  by_cases z : p.1 = n
  · rw [if_pos (by rw [z]), z]
  · rw [if_neg fun y => z (Sum.inr.inj y), e _ z]
theorem dmax_le {P E : Nat} (hp : P ≤ 6) (he : E ≤ 13) : TB.Dmax P E ≤ 394224 := by
  unfold TB.Dmax
  have s : (E + 1) * P ≤ 84 := Nat.le_trans (Nat.mul_le_mul (show E + 1 ≤ 14 by omega) hp) (by decide)
  generalize (E + 1) * P = S at s
  have b : (3 + 3 * S + 1) * (3 + 3 * S + 1) ≤ 256 * 256 := Nat.mul_le_mul (by omega) (by omega)
  exact Nat.le_trans (Nat.mul_le_mul hp (show S + (S + (3 + 3 * S + 1) * (3 + 3 * S + 1)) ≤ 65704 by omega)) (by decide)
theorem stack_le {P E n : Nat} (hp : P ≤ 6) (he : E ≤ 13) (h : n ≤ (E + 1) * (TB.Dmax P E + 1)) : n ≤ 5519150 := by
  have := Nat.mul_le_mul (show E + 1 ≤ 14 by omega) (show TB.Dmax P E + 1 ≤ 394225 by have := dmax_le hp he; omega)
  omega
theorem rep_plus (dn : Nat) : (List.replicate ((dn : Nat) : Int).toNat [PyData.tuple [PyData.str (Str.ofString "+"), PyData.int 0]]).flatten = (List.replicate dn (true, 0)).map fun w : Bool × Nat => PyData.tuple [.str (sign w.1), .int (w.2 : Int)] := by
  rw [Int.toNat_natCast]
  induction dn with
  | zero => rfl
  | succ m ih => rw [List.replicate_succ, List.flatten_cons, ih, List.replicate_succ]; rfl
theorem nd_inr {ps : List (Str × Nat)} (nd : (ps.map (·.1)).Nodup) : (ps.map fun p => (Sum.inr p.1 : Key)).Nodup := by
  rw [show (ps.map fun p => (Sum.inr p.1 : Key)) = (ps.map (·.1)).map Sum.inr by rw [List.map_map]; rfl]
  exact List.Pairwise.map _ (fun a b h z => h (Sum.inr.inj z)) nd
theorem pt_up {U V : UU} {p : Addr} {n : Nat} (h : Pt U p n) (e : ∀ c b, U c = some b → V c = some b) : Pt V p n := by
  obtain ⟨a, b, c, h1, h2⟩ := h
  exact ⟨a, b, c, e _ _ h1, h2⟩
theorem snd_more {ps : List (Str × Nat)} {ls : List Ln} {l : Ln} {dn : Nat} {rs : List (List Nat)} (ok : OwnOk ps (ls ++ [l])) (sn : TB.Snd ls) (hrs : ∀ s, s ∈ rs ↔ ∃ w, Wy (ls ++ [l]) l.1 w l.1 ∧ s = along (List.replicate dn 0) w)
    (h : rs.all (fun s => decide (1 ∈ s)) = true) : TB.Snd (ls ++ [l]) := sn.more fun w hw hc => by
  have wy := wy_ch.mpr ⟨hw, hc⟩
  have m := (hrs _).mpr ⟨w, wy, rfl⟩
  exact (one_along (own_ls ok) dn wy).mp (of_decide_eq_true (List.all_eq_true.mp h _ m))
theorem one_int (ss : List Nat) : (1 : Int) ∈ ss.map (fun n : Nat => (n : Int)) ↔ 1 ∈ ss := by
  rw [List.mem_map]
  constructor
  · rintro ⟨k, hk, e⟩
    rwa [show k = 1 by omega] at hk
  · exact fun h => ⟨1, h, rfl⟩
/-! ### rings -/
abbrev kept (dn : Nat) : List (Bool × Nat) := List.replicate dn (true, 0)
theorem kept_shI (dn : Nat) : List.replicate ((dn : Nat) : Int).toNat (true, (0 : Int)) = shI (kept dn) := by simp [shI, kept]
abbrev wyN (w : List Nat) : PyData := .tuple (w.map fun n : Nat => PyData.int (n : Int))
def p_way_end (K : PySem.W.Frag) (C : Addr) : PT' := fun ws U P => ∃ (ps : List (Str × Nat)) (ls : List Ln) (p : Str) (s0 : List (Bool × Nat)) (way : List Nat), ws = [plW K C ps ls, .s p, .d (wyN way)] ∧ TB.Pth ls (p, s0) way ∧ P (.s (TB.nd ls (p, s0) way).1) U
def p_joined_way (K : PySem.W.Frag) (C : Addr) : PT' := fun ws U P => ∃ (ps : List (Str × Nat)) (ls : List Ln) (p : Str) (dn : Nat) (way : List Nat), ws = [plW K C ps ls, .s p, .d (wyN way)] ∧ OwnOk ps ls ∧ (p, dn) ∈ ps ∧ TB.Pth ls (p, kept dn) way ∧ P (.d (shN (TB.nd ls (p, kept dn) way).2)) U
def p_is_ring (K : PySem.W.Frag) (C : Addr) : PT' := fun ws U P => ∃ (ps : List (Str × Nat)) (ls : List Ln) (p : Str) (s0 : List (Bool × Nat)) (way : List Nat), ws = [plW K C ps ls, .s p, .d (wyN way)] ∧ TB.Pth ls (p, s0) way ∧ way ≠ [] ∧ (TB.nd ls (p, s0) way).1 = p ∧ P (.b true) U
/-- what a ring that makes this shift is told as -/
def rises (l : List (Bool × Nat)) : Option Nat := l.findIdx? fun w => w.1 && decide (0 < w.2)
def told (l : List (Bool × Nat)) : List PyData := match rises l with | some i => [.str "rises", .int (i : Int)] | none => [.str "stays", wyN (l.map (·.2))]
def p_ring_time (K : PySem.W.Frag) (C : Addr) : PT' := fun ws U P => ∃ (ps : List (Str × Nat)) (ls : List Ln) (p : Str) (dn : Nat) (way : List Nat), ws = [plW K C ps ls, .s p, .d (wyN way)] ∧ OwnOk ps ls ∧ (p, dn) ∈ ps ∧ TB.Pth ls (p, kept dn) way ∧ way ≠ [] ∧ (TB.nd ls (p, kept dn) way).1 = p ∧ P (.t (told (TB.nd ls (p, kept dn) way).2)) U
def p_way_shift (K : PySem.W.Frag) : PT' := fun ws U P => ∃ (x : W) (ps : List (Str × Nat)) (ls : List Ln) (p : Str) (dn : Nat) (way : List Nat), ws = [x, .s p, .d (wyN way)] ∧ DkIs K U x (ownK ps ls) ∧ OwnOk ps ls ∧ (p, dn) ∈ ps ∧ TB.Pth ls (p, kept dn) way ∧ P (.d (shN (TB.nd ls (p, kept dn) way).2)) U
def p_walked (K : PySem.W.Frag) : PT' := fun ws U P => ∃ (x : W) (ps : List (Str × Nat)) (ls : List Ln) (p : Str) (dn : Nat) (way : List Nat) (t : List Int), ws = [x, .s p, .d (wyN way), .d (tm t)] ∧ DkIs K U x (ownK ps ls) ∧ OwnOk ps ls ∧ (p, dn) ∈ ps ∧ TB.Pth ls (p, kept dn) way ∧ way ≠ [] ∧ (TB.nd ls (p, kept dn) way).1 = p ∧ t.length = dn ∧
  P (.d (tm (mv (shI (TB.nd ls (p, kept dn) way).2) t))) U
theorem pth_line {ls : List Ln} {s : Str × List (Bool × Nat)} {way : List Nat} (h : TB.Pth ls s way) {i : Nat} (hi : i < way.length) : ∃ l, way[i]? = some (way.getD i 0) ∧ ls[way.getD i 0]? = some l ∧ way.getD i 0 < ls.length ∧ l.1 = (TB.nd ls s (way.take i)).1 ∧ TB.nd ls s (way.take (i + 1)) = (l.2.1, TB.jn (TB.nd ls s (way.take i)).2 l.2.2) := by
  obtain ⟨l, a, b, c⟩ := h.at hi
  exact ⟨l, by rw [List.getD_eq_getElem?_getD, List.getElem?_eq_getElem hi]; rfl, a, (List.getElem?_eq_some_iff.mp a).1, b, c⟩
theorem mv_get' {l : List (Bool × Int)} {ns : List Int} {i : Nat} {w : Bool × Int} (h : l[i]? = some w) : (mv l ns)[i]? = some (if w.1 then ns.getD i 0 + w.2 else w.2) := by
  simp [mv, List.getElem?_mapIdx, h]
theorem mv_len' (l : List (Bool × Int)) (ns : List Int) : (mv l ns).length = l.length := by simp [mv]
theorem mv_jn {a b : List (Bool × Nat)} {t : List Int} (h : ∀ i w, b[i]? = some w → w.1 = true → i < a.length) : mv (shI (TB.jn a b)) t = mv (shI b) (mv (shI a) t) := by
  refine List.ext_getElem? fun i => ?_
  cases hb : b[i]? with
  | none =>
    have e1 : (shI (TB.jn a b))[i]? = none := by simp [shI, TB.jn, hb]
    have e2 : (shI b)[i]? = none := by simp [shI, hb]
    rw [List.getElem?_eq_none (by rw [mv_len']; exact List.getElem?_eq_none_iff.mp e1), List.getElem?_eq_none (by rw [mv_len']; exact List.getElem?_eq_none_iff.mp e2)]
  | some w =>
    have e1 : (shI b)[i]? = some (w.1, (w.2 : Int)) := by simp [shI, hb]
    have e2 : (shI (TB.jn a b))[i]? = some ((if w.1 = true then ((a.getD i (false, 0)).1, (a.getD i (false, 0)).2 + w.2) else w).1, (((if w.1 = true then ((a.getD i (false, 0)).1, (a.getD i (false, 0)).2 + w.2) else w).2 : Nat) : Int)) := by rw [shI, List.getElem?_map, TB.jn_get hb, Option.map_some]
    rw [mv_get' e2, mv_get' e1]
    cases z : w.1 with
    | false => simp [z]
    | true =>
      have hi := h i w hb z
      have ea : a[i]? = some a[i] := List.getElem?_eq_getElem hi
      have e3 : (shI a)[i]? = some (a[i].1, (a[i].2 : Int)) := by simp [shI, ea]
      have e4 := mv_get' (ns := t) e3
      simp only [z, if_true, List.getD_eq_getElem?_getD, ea, e4, Option.getD_some]
      cases a[i].1 <;> simp <;> omega
theorem mv_kept21 {dn : Nat} {t : List Int} (h : t.length = dn) : mv (shI (kept dn)) t = t := by
  refine List.ext_getElem? fun i => ?_
  by_cases hi : i < dn
  · have e : (shI (kept dn))[i]? = some (true, 0) := by simp [shI, kept, hi]
    rw [mv_get' e, List.getD_eq_getElem?_getD, List.getElem?_eq_getElem (by omega)]
    simp
  · rw [List.getElem?_eq_none (by rw [mv_len']; simp [shI]; omega), List.getElem?_eq_none (by omega)]
theorem natL_shaped (xs : List Nat) : SeqAt.shaped (.list (xs.map fun n : Nat => PyData.int (n : Int))) = true := by
  have d : PyData.depthAll (xs.map fun n : Nat => PyData.int (n : Int)) = 0 := by
    induction xs with
    | nil => simp [PyData.depthAll]
    | cons n ns ih => simp [PyData.depthAll, PyData.depth, ih]
  have l : PyData.canLayAll0 (xs.map fun n : Nat => PyData.int (n : Int)) = true := by
    induction xs with
    | nil => simp [PyData.canLayAll0]
    | cons n ns ih =>
      have d2 : PyData.depthAll (ns.map fun n : Nat => PyData.int (n : Int)) = 0 := by simp [PyData.depthAll, PyData.depth] at d; omega
      simp [PyData.canLayAll0, PyData.canLay0, ih d2]
  show ((PyData.list (xs.map fun n : Nat => PyData.int (n : Int))).canLay0 && decide ((PyData.list (xs.map fun n : Nat => PyData.int (n : Int))).depth ≤ 64)) = true
  rw [Bool.and_eq_true]
  refine ⟨by simp only [PyData.canLay0]; exact l, decide_eq_true ?_⟩
  simp only [PyData.depth, d]
  omega
def p_ring (K : PySem.W.Frag) : PT' := fun ws U P => ∃ (a : Addr) (n : Nat) (x : W) (ps : List (Str × Nat)) (ls : List Ln), ws = [.r a, x] ∧ Pt U a n ∧ n + 30 < 100000 ∧ DkIs K U x (ownK ps ls) ∧ OwnOk ps ls ∧
  (∀ U', Pt U' a (n + 30) → Els a U U' → P (.d .none) U') ∧
  ∀ (p : Str) (dn : Nat) (way : List Nat) U', (p, dn) ∈ ps → way ≠ [] → way.length ≤ 12 → TB.Pth ls (p, kept dn) way → (TB.nd ls (p, kept dn) way).1 = p → Pt U' a (n + 30) → Els a U U' → P (.t [.str p, wyN way]) U'
theorem frm_mem {ls : List Ln} {n : Str} {k : Nat} (h : k ∈ frm ls n) : ∃ l, ls[k]? = some l ∧ l.1 = n := by
  rw [frm, List.mem_filter, List.mem_range, decide_eq_true_eq] at h
  refine ⟨ls[k]'h.1, List.getElem?_eq_getElem h.1, ?_⟩
  have := h.2
  rw [List.getD_eq_getElem?_getD, List.getElem?_map, List.getElem?_eq_getElem h.1] at this
  exact this
theorem natT_shaped (xs : List Nat) : SeqAt.shaped (wyN xs) = true := by
  have h := natL_shaped xs
  have h1 : ((PyData.list (xs.map fun n : Nat => PyData.int (n : Int))).canLay0 && decide ((PyData.list (xs.map fun n : Nat => PyData.int (n : Int))).depth ≤ 64)) = true := h
  show ((wyN xs).canLay0 && decide ((wyN xs).depth ≤ 64)) = true
  simp only [wyN, PyData.canLay0, PyData.depth] at h1 ⊢
  exact h1
theorem tup_nil {α : Type} (f : α → PyData) (xs : List α) : PyData.eqv (.tuple (xs.map f)) (.tuple []) = decide (xs = []) := by
  cases xs with
  | nil => rfl
  | cons x xs => simp [PyData.eqv, PyData.eqvAll]
/-- the parts that are raised -/
def rsd (l : List (Bool × Nat)) : List Nat := (List.range l.length).filter fun i => match l[i]? with | some w => w.1 && decide (0 < w.2) | none => false
theorem rsd_nil {l : List (Bool × Nat)} (h : rsd l = []) : (∀ w ∈ l, w.1 = true → w.2 = 0) ∧ rises l = none := by
  have a : ∀ w ∈ l, (w.1 && decide (0 < w.2)) = false := fun w hw => by
    obtain ⟨i, hi⟩ := List.mem_iff_getElem?.mp hw
    have := List.filter_eq_nil_iff.mp h i (List.mem_range.mpr (List.getElem?_eq_some_iff.mp hi).1)
    rw [hi] at this
    exact Bool.not_eq_true _ ▸ this
  refine ⟨fun w hw h1 => ?_, ?_⟩
  · have := a w hw
    rw [h1, Bool.true_and, decide_eq_false_iff_not] at this
    omega
  · rw [rises, List.findIdx?_eq_none_iff]
    exact a
theorem rsd_cons {l : List (Bool × Nat)} {i : Nat} {r : List Nat} (h : rsd l = i :: r) : rises l = some i ∧ i < l.length := by
  have hm : i ∈ rsd l := by rw [h]; exact List.mem_cons_self
  rw [rsd, List.mem_filter, List.mem_range] at hm
  obtain ⟨hi, hf⟩ := hm
  rw [List.getElem?_eq_getElem hi] at hf
  refine ⟨?_, hi⟩
  rw [rises, List.findIdx?_eq_some_iff_getElem]
  refine ⟨hi, hf, fun j hj hb => ?_⟩
  have hjl : j < l.length := by omega
  have jm : j ∈ rsd l := by
    rw [rsd, List.mem_filter, List.mem_range]
    refine ⟨hjl, ?_⟩
    rw [List.getElem?_eq_getElem hjl]
    exact hb
  have srt : (rsd l).Pairwise (· < ·) := List.Pairwise.filter _ List.pairwise_lt_range
  rw [h] at srt jm
  rcases List.mem_cons.mp jm with e | e
  · omega
  · have := (List.pairwise_cons.mp srt).1 j e
    omega
abbrev leastN (l : List (Bool × Nat)) : List Int := l.map fun w => if w.1 = true then (0 : Int) else (w.2 : Int)
theorem stays_eq {l : List (Bool × Nat)} (h : ∀ w ∈ l, w.1 = true → w.2 = 0) : wyN (l.map (·.2)) = tm (leastN l) := by
  rw [wyN, tm, leastN, List.map_map, List.map_map]
  congr 1
  refine List.map_congr_left fun w hw => ?_
  show PyData.int (w.2 : Int) = .int (if w.1 = true then (0 : Int) else (w.2 : Int))
  by_cases z : w.1 = true
  · rw [if_pos z, h w hw z]; rfl
  · rw [if_neg z]
theorem mv_at {l : List (Bool × Nat)} {t : List Int} (i : Nat) (hi : i < l.length) : (mv (shI l) t)[i]? = some (if l[i].1 = true then t.getD i 0 + (l[i].2 : Int) else (l[i].2 : Int)) := by
  have e : (shI l)[i]? = some (l[i].1, (l[i].2 : Int)) := by simp [shI, List.getElem?_eq_getElem hi]
  rw [mv_get' e]
theorem walk_least {l : List (Bool × Nat)} (h : ∀ w ∈ l, w.1 = true → w.2 = 0) : mv (shI l) (leastN l) = leastN l := by
  refine List.ext_getElem? fun i => ?_
  by_cases hi : i < l.length
  · rw [mv_at i hi, List.getElem?_map, List.getElem?_eq_getElem hi, Option.map_some]
    have g : (leastN l).getD i 0 = if l[i].1 = true then (0 : Int) else (l[i].2 : Int) := by
      rw [List.getD_eq_getElem?_getD, List.getElem?_map, List.getElem?_eq_getElem hi]
      rfl
    rw [g]
    by_cases z : l[i].1 = true
    · have := h _ (List.getElem_mem hi) z
      rw [if_pos z, if_pos z, this]
      rfl
    · rw [if_neg z, if_neg z]
  · rw [List.getElem?_eq_none (by rw [mv_len']; simp [shI]; omega), List.getElem?_eq_none (by simp; omega)]
theorem atMost_iff {a b : List Int} : atMost a b = true ↔ a.length = b.length ∧ ∀ i, i < a.length → a.getD i 0 ≤ b.getD i 0 := by
  unfold atMost
  rw [Bool.and_eq_true, decide_eq_true_eq]
  constructor
  · rintro ⟨h, g⟩
    refine ⟨h, fun i hi => ?_⟩
    have hb : i < b.length := by omega
    have := List.all_eq_true.mp g (a[i], b[i]) (List.mem_iff_getElem.mpr ⟨i, by simp; omega, by simp⟩)
    rw [List.getD_eq_getElem?_getD, List.getD_eq_getElem?_getD, List.getElem?_eq_getElem hi, List.getElem?_eq_getElem hb]
    exact of_decide_eq_true this
  · rintro ⟨h, g⟩
    refine ⟨h, List.all_eq_true.mpr fun p hp => ?_⟩
    obtain ⟨i, hi, e⟩ := List.mem_iff_getElem.mp hp
    have ha : i < a.length := by simp at hi; omega
    have hb : i < b.length := by omega
    have z := g i ha
    rw [List.getD_eq_getElem?_getD, List.getD_eq_getElem?_getD, List.getElem?_eq_getElem ha, List.getElem?_eq_getElem hb] at z
    rw [← e, List.getElem_zip]
    exact decide_eq_true z
theorem atMost_self (a : List Int) : atMost a a = true := atMost_iff.mpr ⟨rfl, fun _ _ => Int.le_refl _⟩
/-- where a ring that raises no part stays -/
theorem stays_iff {l : List (Bool × Nat)} {t : List Int} (h : ∀ w ∈ l, w.1 = true → w.2 = 0) (ht : t.length = l.length) (h0 : ∀ x ∈ t, 0 ≤ x) : atMost (mv (shI l) t) t = atMost (leastN l) t := by
  have key : ∀ i, i < l.length → ((mv (shI l) t).getD i 0 ≤ t.getD i 0 ↔ (leastN l).getD i 0 ≤ t.getD i 0) := fun i hi => by
    have e1 := mv_at (t := t) i hi
    have g : (leastN l).getD i 0 = if l[i].1 = true then (0 : Int) else (l[i].2 : Int) := by
      rw [List.getD_eq_getElem?_getD, List.getElem?_map, List.getElem?_eq_getElem hi]
      rfl
    rw [List.getD_eq_getElem?_getD (l := mv (shI l) t), e1, Option.getD_some, g]
    have tx : 0 ≤ t.getD i 0 := by
      rw [List.getD_eq_getElem?_getD, List.getElem?_eq_getElem (by omega)]
      exact h0 _ (List.getElem_mem _)
    by_cases z : l[i].1 = true
    · have := h _ (List.getElem_mem hi) z
      rw [if_pos z, if_pos z, this]
      omega
    · rw [if_neg z, if_neg z]
  rw [Bool.eq_iff_iff, atMost_iff, atMost_iff]
  have l1 : (mv (shI l) t).length = l.length := by rw [mv_len']; simp [shI]
  have l2 : (leastN l).length = l.length := by simp
  rw [l1, l2]
  exact ⟨fun ⟨a, b⟩ => ⟨a, fun i hi => (key i hi).mp (b i hi)⟩, fun ⟨a, b⟩ => ⟨a, fun i hi => (key i hi).mpr (b i hi)⟩⟩
def p_ring_right (K : PySem.W.Frag) (C : Addr) : PT' := fun ws U P => ∃ (a : Addr) (n : Nat) (x : W) (ps : List (Str × Nat)) (ls : List Ln), ws = [.r a, x, plW K C ps ls] ∧ Pt U a n ∧ n + 40 < 100000 ∧ DkIs K U x (ownK ps ls) ∧ OwnOk ps ls ∧ ∀ U', Els a U U' → Pt U' a (n + 40) → P (.b true) U'
def p_right21 : PT' := fun ws U P => ∃ (p : Addr) (n : Nat), ws = [.r p] ∧ Pt U p n ∧ n + 1300 < 100000 ∧ ∀ U', Els p U U' → Pt U' p (n + 1300) → P (.b true) U'
theorem low52 {y : Int} (h : y ∈ ([0, 0, 1, 1, 2] : List Int)) : ∃ k : Nat, y = (k : Int) ∧ k ≤ 2 := by
  simp only [List.mem_cons, List.not_mem_nil, or_false] at h
  exact ⟨y.toNat, by omega, by omega⟩
def Lo1 (l : Ln) : Prop := ∀ w ∈ l.2.2, w.1 = true → w.2 ≤ 2
def p_law_shift21 : PT' := fun ws U P => ∃ (a : Addr) (n dep lat : Nat), ws = [.r a, .i (dep : Int), .i (lat : Int)] ∧ Pt U a n ∧ n + 3 * lat < 100000 ∧ lat ≤ 4 ∧
  ∀ (l : List (Bool × Nat)) U', l.length = lat → (∀ i w, l[i]? = some w → w.2 ≤ 3 ∧ (w.1 = true → i < dep ∧ w.2 ≤ 2)) → Pt U' a (n + 3 * lat) → Els a U U' → P (.d (shN l)) U'
def p_any_plan21 (K : PySem.W.Frag) : PT' := fun ws U P => ∃ (a : Addr) (n m : Nat), ws = [.r a, .i (m : Int)] ∧ Pt U a n ∧ n + 1000 < 100000 ∧ 1 ≤ m ∧ m ≤ 12 ∧
  ∀ (d : Addr) (ps : List (Str × Nat)) (ls : List Ln) U', d ≠ a → (∀ k, k ≤ 24 → OwnOk ps (ls.take k)) → (∀ p ∈ ps, NmX p.1) → (∀ l ∈ ls, Lo1 l) → ps.length ≤ m → ls.length ≤ 2 * ps.length + 1 → Pt U' a (n + 1000) → U' d = some (.k (ownK ps ls)) → U d = none → (∀ c, c ≠ a → c ≠ d → U' c = U c) → P (.r d) U'
def p_plan21 (K : PySem.W.Frag) : PT' := fun ws U P => ∃ (a : Addr) (n m : Nat), ws = [.r a, .i (m : Int)] ∧ Pt U a n ∧ n + 1000 < 100000 ∧ 1 ≤ m ∧ m ≤ 6 ∧
  ∀ (d : Addr) (ps : List (Str × Nat)) (ls : List Ln) U', d ≠ a → OwnOk ps ls → (∀ p ∈ ps, NmX p.1) → TB.Snd ls → ps.length ≤ m → ls.length ≤ 2 * ps.length + 1 → Pt U' a (n + 1000) → U' d = some (.k (ownK ps ls)) → U d = none → (∀ c, c ≠ a → c ≠ d → U' c = U c) → P (.r d) U'
def p_drawn21 (K : PySem.W.Frag) : PT' := fun ws U P => ∃ (a : Addr) (n m : Nat), ws = [.r a, .i (m : Int)] ∧ Pt U a n ∧ n + 1001 < 100000 ∧ 1 ≤ m ∧ m ≤ 6 ∧
  ∀ (d : Addr) (ps : List (Str × Nat)) (ls : List Ln) U', d ≠ a → OwnOk ps ls → (∀ p ∈ ps, NmX p.1) → ps.length ≤ m → ls.length ≤ 2 * ps.length + 1 → Pt U' a (n + 1001) → U' d = some (.k (ownK ps ls)) → U d = none → (∀ c, c ≠ a → c ≠ d → U' c = U c) → P (.r d) U'
def upW (w : Bool × Nat) (more : Nat) : Bool × Nat := (w.1, if w.1 = true then w.2 + more else w.2)
def upL (l : Ln) (more : Nat) : Ln := (l.1, l.2.1, l.2.2.map fun w => upW w more)
theorem up_ok {ps : List (Str × Nat)} {l : Ln} {more : Nat} (hm : more ≤ 1) (h : LnOk ps l) (lo : Lo1 l) : LnOk ps (upL l more) := by
  obtain ⟨db, de, a, b, c, d⟩ := h
  refine ⟨db, de, a, b, by rw [upL, List.length_map]; exact c, fun i w hw => ?_⟩
  rw [upL, List.getElem?_map] at hw
  cases z : l.2.2[i]? with
  | none => rw [z] at hw; cases hw
  | some x =>
    rw [z, Option.map_some] at hw
    obtain rfl := Option.some.inj hw
    have e := d i x z
    have e2 := lo x (List.mem_of_getElem? z)
    refine ⟨?_, e.2⟩
    unfold upW
    split
    · have := e2 (by assumption); dsimp only; omega
    · exact e.1
theorem own_more {ps : List (Str × Nat)} {ls : List Ln} {l : Ln} (ok : OwnOk ps ls) (h : LnOk ps l) (hz : ls.length < 24) : OwnOk ps (ls ++ [l]) :=
  ⟨ok.one, ok.few, ok.nms, ok.nd, by rw [List.length_append, List.length_singleton]; omega, fun x hx => by
    rcases List.mem_append.mp hx with z | z
    · exact ok.lns x z
    · rw [List.mem_singleton.mp z]; exact h⟩
theorem own_none {ps : List (Str × Nat)} {ls : List Ln} (ok : OwnOk ps ls) : OwnOk ps [] := ⟨ok.one, ok.few, ok.nms, ok.nd, Nat.zero_le _, fun l h => nomatch h⟩
theorem own_take {ps : List (Str × Nat)} {ls : List Ln} (ok : OwnOk ps ls) (k : Nat) : OwnOk ps (ls.take k) := ⟨ok.one, ok.few, ok.nms, ok.nd, Nat.le_trans (List.length_take_le' _ _) ok.lf, fun l h => ok.lns l (List.mem_of_mem_take h)⟩
def p_tables (K : PySem.W.Frag) : PT' := fun ws U P => ∃ (x : W) (ps : List (Str × Nat)) (ls : List Ln) (n : Str) (dn : Nat), ws = [x, .s n, .i 12] ∧ DkIs K U x (ownK ps ls) ∧ OwnOk ps ls ∧ TB.Snd ls ∧ ps.length ≤ 6 ∧ ls.length ≤ 13 ∧ (n, dn) ∈ ps ∧
  P (.d .none) U ∧ ∀ a kvs, U a = none → P (.r a) (put U a (.k kvs))

end K21

namespace K21
open PySem PySem.Spec PyProof.Rows L2 RZ StX Tv
open PySem PySem.Spec PyProof.Rows L2 RZ StX Tv

section
variable {Pg : Program} {w : World} {K : PySem.W.Frag} {mg : Str → Option Value} {base : Heap} {C_Plan : Addr}
theorem cal_is_name (B : Bi mg) (T : At K mg s_is_name "is_name")  (c_LETTERS : KC_LETTERS K mg)  : Cal Pg w K mg base s_is_name "is_name" 1 ["value"] p_is_name := by
  refine calW T sc_is_name (fun _ _ _ _ _ _ us hl => match us, hl with | [_], _ => rfl) (by rintro ws U P ⟨x, rfl, _⟩; rfl) (fun f cdv A outer s H E hr gd => ?_)
  obtain ⟨a_LETTERS, g_LETTERS⟩ := c_LETTERS
  have hu : (A.deeper (envOfC "is_name" (defScope s_is_name) s.heap.objs.size f cdv)).units + 70 < cLine := by have := hr.un; omega
  refine ⟨_, (pss_one (ps_ret (pe_and (pe_callB (bIsi K) (by rfl) B.isinstance (by decide +kernel) (pa_cons (pv 0) (pa_cons (pe_bltn (v := .ty "str") (u := .type "str") (by rfl) B.str (by decide +kernel) rfl) pa_nil))) (pe_and (pe_chain op_le op_le pe_int (pe_callB (bLen K) (by rfl) B.len (by decide +kernel) (pa_cons (pv 0) pa_nil)) pe_int) (pe_one (pe_callB (bAll K rfl) (by rfl) B.all (by decide +kernel) (pa_cons (pe_lc (own := [("letter", 1)]) rfl sc_is_name.nd (pi_str (pv 0)) (blkOk_by (N := N_is_name) (sc := defScope s_is_name) (by decide +kernel)) (fun _ _ _ _ _ => (pg_name (i := 1) sc_is_name.nd rfl (.inl rfl))) (fun _ _ _ _ _ => pts_nil) (fun _ _ _ _ _ => (pe_cmpR opInS (pv 1) (pe_glob (v := .str (Str.ofString "abcdefghijklmnopqrstuvwxyz")) (by rfl) g_LETTERS ⟨_, rfl⟩) (by rfl)))) pa_nil))))))), fun ws U P h => ?_⟩
  try dsimp only [cxOf, Cx.nox]
  obtain ⟨x, rfl, ok, q⟩ := h
  have h1 := ok.lo
  have h2 := ok.hi
  have hz : x.length ≤ sizeLine := by rw [sizeLine_eq]; omega
  walk_at "tv"
  refine ⟨true, rfl, fun _ => ?_, fun z => nomatch z⟩
  walk_at "tv"
  refine rl_lenS hz ?_
  walk_at "tv"
  refine ⟨true, by simp; omega, fun _ => ?_, fun z => nomatch z⟩
  walk_at "tv"
  refine ⟨true, by simp; omega, fun _ => ?_, fun z => nomatch z⟩
  walk_at "tv"
  refine ev_lcS (f := fun _ => .bool true) (own_name (by simp)) ?_
  walk_at "tv"
  refine ⟨x, rfl, by rw [sizeLine_eq]; omega, fun c hc => ?_, ?_⟩
  · unfold Turn1
    walk_at "tv"
    refine ⟨rfl, ?_⟩
    walk_at "tv"
    refine r2_inS ?_
    rw [if_neg Bool.false_ne_true, decide_eq_true (letters_mem (ok.let' c hc))]
    exact ⟨rfl, rfl⟩
  walk_at "tv"
  rw [show x.cps.toList.map (fun _ => PyData.bool true) = (x.cps.toList.map fun _ => true).map .bool by rw [List.map_map]; rfl]
  refine rl_all ?_
  rw [show (x.cps.toList.map fun _ => true).all id = true by simp]
  exact q
theorem cal_is_long_numeral (B : Bi mg) (T : At K mg s_is_long_numeral "is_long_numeral")  (c_FIGURES : KC_FIGURES K mg)  : Cal Pg w K mg base s_is_long_numeral "is_long_numeral" 1 ["text", "most"] p_is_long_numeral := by
  refine calW T sc_is_long_numeral (fun _ _ _ _ _ _ us hl => match us, hl with | [_, _], _ => rfl) (by rintro ws U P ⟨x, rfl, _⟩; rfl) (fun f cdv A outer s H E hr gd => ?_)
  obtain ⟨a_FIGURES, g_FIGURES⟩ := c_FIGURES
  have hu : (A.deeper (envOfC "is_long_numeral" (defScope s_is_long_numeral) s.heap.objs.size f cdv)).units + 70 < cLine := by have := hr.un; omega
  refine ⟨_, (pss_cons (ps_if (PW.pt (pw_or (pt_not (pt_chain op_le op_le pe_int (pe_callB (bLen K) (by rfl) B.len (by decide +kernel) (pa_cons (pv 0) pa_nil)) (pv 1))) (pw_or1 (pt_not (pt_val (pe_callB (bAll K rfl) (by rfl) B.all (by decide +kernel) (pa_cons (pe_lc (own := [("figure", 2)]) rfl sc_is_long_numeral.nd (pi_str (pv 0)) (blkOk_by (N := N_is_long_numeral) (sc := defScope s_is_long_numeral) (by decide +kernel)) (fun _ _ _ _ _ => (pg_name (i := 2) sc_is_long_numeral.nd rfl (.inl rfl))) (fun _ _ _ _ _ => pts_nil) (fun _ _ _ _ _ => (pe_cmpR opInS (pv 2) (pe_glob (v := .str (Str.ofString "0123456789")) (by rfl) g_FIGURES ⟨_, rfl⟩) (by rfl)))) pa_nil)))))))
        (pss_one (ps_ret pe_bl))
        pss_nil)
      (pss_one (ps_ret (pe_or (pe_cmpR op_eq (pv 0) pe_str (nomark _)) (pe_one (pe_cmpR op_ne (pe_ix ix_str (pv 0) pe_int (fun _ _ => rfl)) pe_str (nomark _))))))), fun ws U P h => ?_⟩
  try dsimp only [cxOf, Cx.nox]
  obtain ⟨x, rfl, ok, q⟩ := h
  have h1 := ok.lo
  have h2 := ok.hi
  have hz : x.length ≤ sizeLine := by rw [sizeLine_eq]; omega
  walk_at "tv"
  refine rl_lenS hz ?_
  walk_at "tv"
  refine ⟨true, by simp; omega, fun _ => ?_, fun z => nomatch z⟩
  walk_at "tv"
  refine ⟨true, by simp; omega, fun _ => ?_, fun z => nomatch z⟩
  walk_at "tv"
  refine ev_lcS (f := fun _ => .bool true) (own_name (by simp)) ?_
  walk_at "tv"
  refine ⟨x, rfl, by rw [sizeLine_eq]; omega, fun c hc => ?_, ?_⟩
  · unfold Turn1
    walk_at "tv"
    refine ⟨rfl, ?_⟩
    walk_at "tv"
    refine r2_inS ?_
    rw [if_neg Bool.false_ne_true, decide_eq_true (figures_mem (ok.fig c hc))]
    exact ⟨rfl, rfl⟩
  walk_at "tv"
  rw [show x.cps.toList.map (fun _ => PyData.bool true) = (x.cps.toList.map fun _ => true).map .bool by rw [List.map_map]; rfl]
  refine rl_all ?_
  refine ⟨true, by rw [show (x.cps.toList.map fun _ => true).all id = true by simp], (fun z => nomatch z), fun _ => ?_⟩
  walk_at "tv"
  refine ⟨_, rfl, fun hn => ?_, fun _ => q⟩
  have hn' : ¬ x = "0" := of_decide_eq_false hn
  obtain ⟨c, hc⟩ : ∃ c, x.cps.toList[0]? = some c := ⟨x.cps.toList[0]'(by rw [str_len]; omega), by simp⟩
  have hd : c ≠ 48 := by
    rcases ok.nul with z | z
    · exact absurd z hn'
    · rw [List.getD_eq_getElem?_getD, hc] at z
      exact z
  walk_at "tv"
  refine r2_ixS hz (show atI x.cps.toList ((0 : Nat) : Int) = some c from atI_nat hc) ?_
  walk_at "tv"
  rw [show decide ((⟨#[c]⟩ : Str) = "0") = false by
    refine decide_eq_false fun z => hd ?_
    have e : (⟨#[c]⟩ : Str).cps = (Str.ofString "0").cps := congrArg Str.cps z
    have e2 : (Str.ofString "0").cps = #[48] := by decide +kernel
    rw [e2] at e
    simpa using e]
  exact q
theorem cal_is_numeral (B : Bi mg) (T : At K mg s_is_numeral "is_numeral") (c_is_long_numeral : Cal Pg w K mg base s_is_long_numeral "is_long_numeral" 1 ["text", "most"] p_is_long_numeral) (c_MOST_FIGURES : KC_MOST_FIGURES K mg)  : Cal Pg w K mg base s_is_numeral "is_numeral" 2 ["text"] p_is_numeral := by
  refine calW T sc_is_numeral (fun _ _ _ _ _ _ us hl => match us, hl with | [_], _ => rfl) (by rintro ws U P ⟨x, rfl, _⟩; rfl) (fun f cdv A outer s H E hr gd => ?_)
  obtain ⟨a_MOST_FIGURES, g_MOST_FIGURES⟩ := c_MOST_FIGURES
  have hu : (A.deeper (envOfC "is_numeral" (defScope s_is_numeral) s.heap.objs.size f cdv)).units + 70 < cLine := by have := hr.un; omega
  refine ⟨_, (pss_one (ps_ret (pe_callC c_is_long_numeral hr gd (by rfl) (pa_cons (pv 0) (pa_cons (pe_glob (v := .int 9) (by rfl) g_MOST_FIGURES ⟨_, rfl⟩) pa_nil))))), fun ws U P h => ?_⟩
  try dsimp only [cxOf, Cx.nox]
  obtain ⟨x, rfl, ok, q⟩ := h
  walk_at "tv"
  exact ⟨x, rfl, ok, q⟩
theorem cal_is_place_row (B : Bi mg) (T : At K mg s_is_place_row "is_place_row") (c_is_name : Cal Pg w K mg base s_is_name "is_name" 1 ["value"] p_is_name) (c_DEPTHS : KC_DEPTHS K mg) (c_MOST_PLACES : KC_MOST_PLACES K mg)  : Cal Pg w K mg base s_is_place_row "is_place_row" 2 ["words", "depths"] p_is_place_row := by
  refine calW T sc_is_place_row (fun _ _ _ _ _ _ us hl => match us, hl with | [_, _], _ => rfl) (by rintro ws U P (⟨a, ps, nm, n, rfl, _⟩ | ⟨a, L, rfl, _⟩) <;> rfl) (fun f cdv A outer s H E hr gd => ?_)
  obtain ⟨a_DEPTHS, g_DEPTHS, d_DEPTHS⟩ := c_DEPTHS
  obtain ⟨a_MOST_PLACES, g_MOST_PLACES⟩ := c_MOST_PLACES
  have hu : (A.deeper (envOfC "is_place_row" (defScope s_is_place_row) s.heap.objs.size f cdv)).units + 70 < cLine := by have := hr.un; omega
  refine ⟨_, (pss_cons (ps_if (PW.pt (pw_or (pt_cmpR op_ne (pe_callB (bLen K) (by rfl) B.len (by decide +kernel) (pa_cons (pv 0) pa_nil)) pe_int (nomark _)) (pw_or (pt_cmpR op_ne (pe_ix (ixL K) (pv 0) pe_int (fun _ _ => rfl)) pe_str (nomark _)) (pw_or1 (pt_cmpR op_eq (pe_callB b_lenD (by rfl) B.len (by decide +kernel) (pa_cons (pv 1) pa_nil)) (pe_glob (v := .int 12) (by rfl) g_MOST_PLACES ⟨_, rfl⟩) (nomark _))))))
        (pss_one (ps_ret pe_bl))
        pss_nil)
      (pss_one (ps_ret (pe_and (pe_callC c_is_name hr gd (by rfl) (pa_cons (pe_ix (ixL K) (pv 0) pe_int (fun _ _ => rfl)) pa_nil)) (pe_and (pe_cmp (pcDNotIn hu (pe_ix (ixL K) (pv 0) pe_int (fun _ _ => rfl)) (pv 1))) (pe_one (pe_cmpR (opIn K) (pe_ix (ixL K) (pv 0) pe_int (fun _ _ => rfl)) (pe_glob (v := .ref a_DEPTHS) (by rfl) g_DEPTHS rfl) (by rfl)))))))), fun ws U P h => ?_⟩
  try dsimp only [cxOf, Cx.nox]
  rcases h with ⟨a, ps, nm, n, rfl, ha, hl, nok, hn, h1, h3, q⟩ | ⟨a, L, rfl, h0, q⟩
  rotate_left
  · walk_at "tv"
    refine ⟨_, rfl, fun _ => ?_, fun _ => ?_⟩
    · walk_at "tv"
      refine r2_ixL h0 ?_
      walk_at "tv"
      refine ⟨true, by rw [show decide (("line" : Str) = Str.ofString "place") = false by decide +kernel]; rfl, (fun z => nomatch z), fun _ => ?_⟩
      refine ⟨fun _ => ?_, fun z => nomatch z⟩
      walk_at "tv"
      exact q
    · refine ⟨fun _ => ?_, fun z => nomatch z⟩
      walk_at "tv"
      exact q
  have hd : (toString (n : Int) : Str) ∈ [Str.ofString "1", Str.ofString "2", Str.ofString "3", Str.ofString "4"] := by
    rcases (show n = 1 ∨ n = 2 ∨ n = 3 by omega) with rfl | rfl | rfl <;> decide +kernel
  walk_at "tv"
  refine ⟨false, rfl, fun _ => ?_, fun z => nomatch z⟩
  walk_at "tv"
  refine r2_ixL (x := .str "place") rfl ?_
  walk_at "tv"
  refine ⟨false, by rw [show decide (("place" : Str) = Str.ofString "place") = true by decide +kernel]; rfl, fun _ => ?_, fun z => nomatch z⟩
  walk_at "tv"
  refine rl_lenD (.inl ⟨a, rfl, ha⟩) ?_
  walk_at "tv"
  refine ⟨false, by rw [List.length_map, decide_eq_false (by omega)], (fun z => nomatch z), fun _ => ?_⟩
  walk_at "tv"
  refine r2_ixL (x := .str nm) rfl ?_
  walk_at "tv"
  refine ⟨nm, rfl, nok, true, rfl, fun _ => ?_, fun z => nomatch z⟩
  refine ev_andV (ev_dnotin ?_)
  walk_at "tv"
  refine r2_ixL (x := .str nm) rfl ?_
  walk_at "tv"
  refine ⟨plK ps, .inr nm, .inl ⟨a, rfl, ha⟩, rfl, true, by rw [plK_get, decide_eq_false hn]; rfl, fun _ => ?_, fun z => nomatch z⟩
  walk_at "tv"
  refine r2_ixL (x := .str (toString (n : Int))) rfl ?_
  refine ev_kdata d_DEPTHS ?_
  refine r2_inSs (.inl rfl) ?_
  rw [if_neg Bool.false_ne_true, decide_eq_true hd]
  exact q
theorem cal_is_shift_word (B : Bi mg) (T : At K mg s_is_shift_word "is_shift_word") (c_is_numeral : Cal Pg w K mg base s_is_numeral "is_numeral" 2 ["text"] p_is_numeral)   : Cal Pg w K mg base s_is_shift_word "is_shift_word" 3 ["word", "is_there"] p_is_shift_word := by
  refine calW T sc_is_shift_word (fun _ _ _ _ _ _ us hl => match us, hl with | [_, _], _ => rfl) (by rintro ws U P ⟨b, t, x, rfl, _⟩; rfl) (fun f cdv A outer s H E hr gd => ?_)
  have hu : (A.deeper (envOfC "is_shift_word" (defScope s_is_shift_word) s.heap.objs.size f cdv)).units + 70 < cLine := by have := hr.un; omega
  refine ⟨_, (pss_one (ps_ret (pe_and (pe_or (pe_cmpR op_eq (pe_slice sl_str (pv 0) po_none (po_some pe_int)) pe_str (nomark _)) (pe_one (pe_and (pe_cmpR op_eq (pe_slice sl_str (pv 0) po_none (po_some pe_int)) pe_str (nomark _)) (pe_one (pv 1))))) (pe_one (pe_callC c_is_numeral hr gd (by rfl) (pa_cons (pe_slice sl_str (pv 0) (po_some pe_int) po_none) pa_nil)))))), fun ws U P h => ?_⟩
  try dsimp only [cxOf, Cx.nox]
  obtain ⟨b, t, x, rfl, ok, hb, q⟩ := h
  have es : sign b = ⟨#[if b then 43 else 61]⟩ := by cases b <;> decide +kernel
  have hz : (sign b ++ x).length ≤ sizeLine := by
    have e : (sign b ++ x).length = x.length + 1 := by
      rw [es, ← str_len]
      show ((#[_] : Array Nat) ++ x.cps).toList.length = _
      simp [Str.length]
    have := ok.hi
    rw [e, sizeLine_eq]
    omega
  have e0 : cutS (sign b ++ x) none (some 1) = sign b := by rw [es]; exact cut_head _ x
  have e1 : cutS (sign b ++ x) (some 1) none = x := by rw [es]; exact cut_tail _ x
  refine sw_ret ?_
  refine ev_andV (ev_orV (ev_op (ev_slS (ev_var rfl (eo_none (eo_some (ev_int ⟨1, rfl, _, rfl, hz, ?_⟩)))))))
  rw [e0]
  walk_at "tv"
  have fin : EV K (tCall (spW K p_is_numeral) [] E0 (tCons (tSl rSlS (tVar 0) (tPart (tC (V.int 1))) tNoPart) tNil)) (startR N_is_shift_word [W.s (sign b ++ x), W.b t]) U (retE P).rt := by
    refine ev_call (ev_cons (ev_slS (ev_var rfl (eo_some (ev_int ⟨1, rfl, eo_none ⟨_, rfl, hz, ?_⟩⟩)))))
    rw [e1]
    walk_at "tv"
    exact ⟨x, rfl, ok, q⟩
  cases b with
  | false => exact ⟨true, by rw [show decide (sign false = Str.ofString "=") = true by decide +kernel], fun z => (nomatch z), fun _ => ⟨true, rfl, fun _ => fin, fun z => (nomatch z)⟩⟩
  | true =>
    refine ⟨false, by rw [show decide (sign true = Str.ofString "=") = false by decide +kernel], fun _ => ?_, fun z => (nomatch z)⟩
    refine ev_andV (ev_op (ev_slS (ev_var rfl (eo_none (eo_some (ev_int ⟨1, rfl, _, rfl, hz, ?_⟩))))))
    rw [e0]
    walk_at "tv"
    refine ⟨true, by rw [show decide (sign true = Str.ofString "+") = true by decide +kernel], fun _ => ?_, fun z => nomatch z⟩
    walk_at "tv"
    exact ⟨t, rfl, fun _ => fin, fun z => by rw [hb rfl] at z; cases z⟩
theorem cal_is_line_row (B : Bi mg) (T : At K mg s_is_line_row "is_line_row") (c_is_shift_word : Cal Pg w K mg base s_is_shift_word "is_shift_word" 3 ["word", "is_there"] p_is_shift_word)   : Cal Pg w K mg base s_is_line_row "is_line_row" 4 ["words", "depths"] p_is_line_row := by
  refine calW T sc_is_line_row (fun _ _ _ _ _ _ us hl => match us, hl with | [_, _], _ => rfl) (by rintro ws U P ⟨a, ps, b, e, db, de, sh, rfl, _⟩; rfl) (fun f cdv A outer s H E hr gd => ?_)
  have hu : (A.deeper (envOfC "is_line_row" (defScope s_is_line_row) s.heap.objs.size f cdv)).units + 70 < cLine := by have := hr.un; omega
  refine ⟨_, (pss_cons (ps_if (PW.pt (pw_or (pt_cmpR op_lt (pe_callB (bLen K) (by rfl) B.len (by decide +kernel) (pa_cons (pv 0) pa_nil)) pe_int (nomark _)) (pw_or (pt_cmpR op_ne (pe_ix (ixL K) (pv 0) pe_int (fun _ _ => rfl)) pe_str (nomark _)) (pw_or (pt_cmp (pcDNotIn hu (pe_ix (ixL K) (pv 0) pe_int (fun _ _ => rfl)) (pv 1))) (pw_or1 (pt_cmp (pcDNotIn hu (pe_ix (ixL K) (pv 0) pe_int (fun _ _ => rfl)) (pv 1))))))))
        (pss_one (ps_ret pe_bl))
        pss_nil)
      (pss_cons (ps_if (pt_cmpR op_ne (pe_op op_sub (pe_callB (bLen K) (by rfl) B.len (by decide +kernel) (pa_cons (pv 0) pa_nil)) pe_int) (peDGet hu (pv 1) (pe_ix (ixL K) (pv 0) pe_int (fun _ _ => rfl)) (fun _ _ => rfl)) (nomark _))
        (pss_one (ps_ret pe_bl))
        pss_nil)
      (pss_one (ps_ret (pe_callB (bAll K rfl) (by rfl) B.all (by decide +kernel) (pa_cons (pe_lc (own := [("part", 2), ("word", 3)]) rfl sc_is_line_row.nd (piEnL K (by rfl) B.enumerate (pa_cons (pe_slice (slL K) (pv 0) (po_some pe_int) po_none) pa_nil)) (blkOk_by (N := N_is_line_row) (sc := defScope s_is_line_row) (by decide +kernel)) (fun _ _ _ _ _ => (pgT K (n := 2) rfl (pgs_cons (pg_name (i := 2) sc_is_line_row.nd rfl (.inl rfl)) (pgs_cons (pg_name (i := 3) sc_is_line_row.nd rfl (.inl rfl)) pgs_nil)))) (fun _ _ _ _ _ => pts_nil) (fun _ _ _ _ _ => (pe_callC c_is_shift_word hr gd (by rfl) (pa_cons (pv 3) (pa_cons (pe_cmpR op_lt (pv 2) (peDGet hu (pv 1) (pe_ix (ixL K) (pv 0) pe_int (fun _ _ => rfl)) (fun _ _ => rfl)) (nomark _)) pa_nil))))) pa_nil)))))), fun ws U P h => ?_⟩
  try dsimp only [cxOf, Cx.nox]
  obtain ⟨a, ps, b, e, db, de, sh, rfl, ha, hb, he, hl, h4, hw, q⟩ := h
  obtain ⟨L, hL⟩ : ∃ L, L = (PyData.str "line" :: .str b :: .str e :: sh.map fun w => PyData.str (wtext w)) := ⟨_, rfl⟩
  rw [← hL]
  have hlen : L.length = 3 + de := by
    rw [hL]
    simp only [List.length_cons, List.length_map]
    omega
  have x0 : atI L 0 = some (.str "line") := L2.atI_nat (j := 0) (by rw [hL]; rfl)
  have x1 : atI L 1 = some (.str b) := L2.atI_nat (j := 1) (by rw [hL]; rfl)
  have x2 : atI L 2 = some (.str e) := L2.atI_nat (j := 2) (by rw [hL]; rfl)
  have hdr : cutD L (some 3) none = sh.map fun w => .str (wtext w) := by
    rw [show (3 : Int) = ((3 : Nat) : Int) from rfl, cutD_drop, hL]
    rfl
  clear hL
  have db' : DkIs K U (.r a) (plK ps) := .inl ⟨a, rfl, ha⟩
  walk_at "tv"
  rw [hlen]
  refine ⟨false, by rw [decide_eq_false (by omega)], fun _ => ?_, fun z => nomatch z⟩
  walk_at "tv"
  refine r2_ixL x0 ?_
  walk_at "tv"
  refine ⟨false, by rw [show decide (("line" : Str) = Str.ofString "line") = true by decide +kernel]; rfl, fun _ => ?_, fun z => nomatch z⟩
  refine et_or (et_b (ev_dnotin ?_))
  walk_at "tv"
  refine r2_ixL x1 ?_
  walk_at "tv"
  refine ⟨plK ps, .inr b, db', rfl, false, by rw [hb]; rfl, fun _ => ?_, fun z => nomatch z⟩
  refine et_b (ev_dnotin ?_)
  walk_at "tv"
  refine r2_ixL x2 ?_
  walk_at "tv"
  refine ⟨plK ps, .inr e, db', rfl, false, by rw [he]; rfl, (fun z => nomatch z), fun _ => ?_⟩
  refine sw_next ?_
  show SW K (tSeq _ _) _ U (retE P)
  refine sw_seq (sw_if (et_test (ev_op ?_)))
  walk_at "tv"
  refine ev_dget ?_
  walk_at "tv"
  refine r2_ixL x2 ?_
  refine ⟨plK ps, .inr e, _, db', rfl, he, ?_⟩
  walk_at "tv"
  refine ⟨false, by rw [hlen, decide_eq_true (by omega)]; rfl, (fun z => nomatch z), fun _ => ?_⟩
  refine sw_next ?_
  show SW K (tRet _) _ U (retE P)
  refine sw_ret (ev_cb (ev_cons (ev_lcF (own_tup (owns_cons gname_mono (own_name (by simp)) (owns_cons gname_mono (own_name (by simp)) owns_nil))) (iw_enumL ?_))))
  walk_at "tv"
  refine ⟨3, rfl, ?_⟩
  walk_at "tv"
  refine ⟨_, rfl, ?_⟩
  rw [hdr]
  walk_at "tv"
  refine ⟨_, rfl, fun _ => .bool true, by rw [List.length_map, sizeLine_eq]; omega, fun i hi => ?_, ?_⟩
  · have hi' : i < sh.length := by simpa using hi
    obtain ⟨w, hwi⟩ : ∃ w, sh[i]? = some w := ⟨sh[i], by simp [hi']⟩
    have hw' := hw i w hwi
    show Turn1 K _ _ _ _ _ (.tuple [.int (i : Nat), (sh.map fun w => PyData.str (wtext w)).getD i .none]) _
    rw [getD_at hwi]
    unfold Turn1
    refine gw_pair ?_
    walk_at "tv"
    refine ⟨rfl, ?_⟩
    walk_at "tv"
    refine ev_dget ?_
    walk_at "tv"
    refine r2_ixL x1 ?_
    refine ⟨plK ps, .inr b, _, db', rfl, hb, ?_⟩
    walk_at "tv"
    exact ⟨w.1, decide ((i : Int) < (db : Int)), toString (w.2 : Int), rfl, num_ok hw'.1, fun z => decide_eq_true (by have := hw'.2 z; omega), rfl, rfl⟩
  · rw [show (List.range (sh.map fun w => PyData.str (wtext w)).length).map (fun _ => PyData.bool true) = ((List.range sh.length).map fun _ => true).map .bool by rw [List.map_map, List.length_map]; rfl]
    walk_at "tv"
    refine rl_all ?_
    rw [show ((List.range sh.length).map fun _ => true).all id = true by simp]
    exact q
theorem cal_plan_rows (B : Bi mg) (T : At K mg s_plan_rows "plan_rows") (c_is_place_row : Cal Pg w K mg base s_is_place_row "is_place_row" 2 ["words", "depths"] p_is_place_row) (c_is_line_row : Cal Pg w K mg base s_is_line_row "is_line_row" 4 ["words", "depths"] p_is_line_row) (c_MOST_LINES : KC_MOST_LINES K mg)  : Cal Pg w K mg base s_plan_rows "plan_rows" 5 ["text"] (p_plan_rows K) := by
  refine calW T sc_plan_rows (fun _ _ _ _ _ _ us hl => match us, hl with | [_], _ => rfl) (by rintro ws U P ⟨ps, ls, rfl, _⟩; rfl) (fun f cdv A outer s H E hr gd => ?_)
  obtain ⟨a_MOST_LINES, g_MOST_LINES⟩ := c_MOST_LINES
  have hu : (A.deeper (envOfC "plan_rows" (defScope s_plan_rows) s.heap.objs.size f cdv)).units + 70 < cLine := by have := hr.un; omega
  refine ⟨_, (pss_cons (ps_set (i := 1) sc_plan_rows.nd rfl (.inl rfl) pe_dnewK)
      (pss_cons (ps_set (i := 2) sc_plan_rows.nd rfl (.inl rfl) (pe_lst pa_nil))
      (pss_cons (ps_for PassesOwn.never rfl (piEnS K (by rfl) B.enumerate (pa_cons (peSplit (pv 0) pe_str) pa_nil) (pk_cons pe_int pk_nil)) (pgT K (n := 2) rfl (pgs_cons (pg_name (i := 3) sc_plan_rows.nd rfl (.inl rfl)) (pgs_cons (pg_name (i := 4) sc_plan_rows.nd rfl (.inl rfl)) pgs_nil)))
        (pss_cons (ps_set (i := 5) sc_plan_rows.nd rfl (.inl rfl) (peSplit (pv 4) pe_str))
      (pss_one (ps_if (pt_val (pe_callC c_is_place_row hr gd (by rfl) (pa_cons (pv 5) (pa_cons (pv 1) pa_nil))))
        (pss_one (psDPut hu (pv 1) (pe_ix (ixL K) (pv 5) pe_int (fun _ _ => rfl)) (pe_callTy bIntS (by rfl) B.int (by decide +kernel) (pa_cons (pe_ix (ixL K) (pv 5) pe_int (fun _ _ => rfl)) pa_nil)) rfl))
        (pss_one (ps_if (PW.pt (pw_and (pt_cmpR op_lt (pe_callB (bLen K) (by rfl) B.len (by decide +kernel) (pa_cons (pv 2) pa_nil)) (pe_glob (v := .int 24) (by rfl) g_MOST_LINES ⟨_, rfl⟩) (nomark _)) (pw_and1 (pt_val (pe_callC c_is_line_row hr gd (by rfl) (pa_cons (pv 5) (pa_cons (pv 1) pa_nil)))))))
        (pss_one (ps_expr (pe_bm PySem.F.plainAttrs_list PySem.F.slot_list_append PySem.F.type_list_append mt_append (pv 2) (pa_cons (pe_tup (pa_cons (pe_ix (ixL K) (pv 5) pe_int (fun _ _ => rfl)) (pa_cons (pe_ix (ixL K) (pv 5) pe_int (fun _ _ => rfl)) (pa_cons (pe_callTy (bTup K) (by rfl) B.tuple (by decide +kernel) (pa_cons (pe_lc (own := [("word", 6)]) rfl sc_plan_rows.nd (piL K (pe_slice (slL K) (pv 5) (po_some pe_int) po_none)) (blkOk_by (N := N_plan_rows) (sc := defScope s_plan_rows) (by decide +kernel)) (fun _ _ _ _ _ => (pg_name (i := 6) sc_plan_rows.nd rfl (.inl rfl))) (fun _ _ _ _ _ => pts_nil) (fun _ _ _ _ _ => (pe_tup (pa_cons (pe_ix ix_str (pv 6) pe_int (fun _ _ => rfl)) (pa_cons (pe_callTy bIntS (by rfl) B.int (by decide +kernel) (pa_cons (pe_slice sl_str (pv 6) (po_some pe_int) po_none) pa_nil)) pa_nil))))) pa_nil)) pa_nil)))) pa_nil))))
        (pss_one ps_never)))))))
      (pss_one (ps_ret (pe_tup (pa_cons (pe_callTy (cr_tupItems rfl rfl) (by rfl) B.tuple (by decide +kernel) (pa_cons (pe_bm0 PySem.F.plainAttrs_dict PySem.F.slot_dict_items PySem.F.type_dict_items mt_itemsK (pv 1)) pa_nil)) (pa_cons (pe_callTy (bTup K) (by rfl) B.tuple (by decide +kernel) (pa_cons (pv 2) pa_nil)) pa_nil)))))))), fun ws U P h => ?_⟩
  try dsimp only [cxOf, Cx.nox]
  obtain ⟨ps, ls, rfl, ok, tx, q⟩ := h
  refine sw_seq (sw_asg (ev_dnew fun a ha => ?_))
  walk_at "tv"
  refine ev_lstM ?_
  walk_at "tv"
  refine ⟨Nat.zero_le _, fun l hl => ?_⟩
  have nla : l ≠ a := fun z => by rw [z, put_same] at hl; cases hl
  have hlU : U l = none := by rw [put_ne nla] at hl; exact hl
  walk_at "tv"
  refine sw_for (iw_enumS ?_)
  walk_at "tv"
  refine ev_m1 (ev_var rfl ⟨_, rfl, ?_⟩)
  walk_at "tv"
  refine rm_split (by decide +kernel) tx.len ?_
  rw [tx.rw1]
  walk_at "tv"
  refine ⟨_, 1, rfl, rfl, by decide, by decide, fun i ρ V => ∃ x3 x4 x5 x6, ρ = [some (.s (own_text ps ls)), some (.r a), some (.r l), x3, x4, x5, x6] ∧ V a = some (.k (plK (ps.take i))) ∧ V l = some (.l (((ls.take (i - ps.length)).map lnD).map W.d)) ∧ (∀ c, c ≠ a → c ≠ l → V c = U c),
    ⟨none, none, none, none, rfl, by rw [put_ne nla.symm, put_same]; rfl, by rw [put_same]; simp, fun c c1 c2 => by rw [put_ne c2, put_ne c1]⟩, ?_, ?_⟩
  · rintro i ρ V hi ⟨x3, x4, x5, x6, rfl, h1, h2, h3⟩
    have hib : i < (rows ps ls).length := by simpa using hi
    obtain ⟨r, hr⟩ : ∃ r, (rows ps ls)[i]? = some r := ⟨(rows ps ls)[i], by simp [hib]⟩
    have hmem : r ∈ rows ps ls := List.mem_of_getElem? hr
    show GW K _ (.d (.tuple [.int (1 + (i : Nat)), (((rows ps ls).map (Txt.join (Str.ofString " "))).map PyData.str).getD i .none])) _ _ _
    rw [List.map_map, getD_at hr]
    show GW K _ (.d (.tuple [.int (1 + (i : Nat)), .str (Txt.join (Str.ofString " ") r)])) _ _ _
    refine gw_pair ?_
    walk_at "tv"
    refine ev_m1 (ev_var rfl ⟨_, rfl, ?_⟩)
    walk_at "tv"
    refine rm_split (by decide +kernel) (tx.lens r hmem) ?_
    rw [tx.wd r hmem]
    walk_at "tv"
    by_cases hp : i < ps.length
    · obtain ⟨p, hpi⟩ : ∃ p, ps[i]? = some p := ⟨ps[i], by simp [hp]⟩
      obtain rfl : r = prow p := by
        rw [rows, List.getElem?_append_left (by simpa using hp), List.getElem?_map, hpi] at hr
        exact (Option.some.inj hr).symm
      have pm := List.mem_of_getElem? hpi
      obtain ⟨n1, n2, n3⟩ := ok.nms p pm
      have few := ok.few
      have hnew : p.1 ∉ (ps.take i).map (·.1) := fun z => by
        obtain ⟨q', q1, q2⟩ := List.mem_map.mp z
        obtain ⟨j, hj⟩ := List.mem_iff_getElem?.mp q1
        have hji : j < i := by
          have := (List.getElem?_eq_some_iff.mp hj).1
          rw [List.length_take] at this
          omega
        rw [List.getElem?_take_of_lt hji] at hj
        have e1 : (ps.map (·.1))[j]? = some p.1 := by rw [List.getElem?_map, hj, ← q2]; rfl
        have e2 : (ps.map (·.1))[i]? = some p.1 := by rw [List.getElem?_map, hpi]; rfl
        have := (List.getElem?_inj (by simp; omega) ok.nd).mp (e1.trans e2.symm)
        omega
      refine .inl ⟨a, ps.take i, p.1, p.2, rfl, h1, by rw [List.length_take]; omega, n1, hnew, n2, n3, true, rfl, fun _ => ?_, fun z => nomatch z⟩
      have tk : plK (ps.take (i + 1)) = plK (ps.take i) ++ [(Sum.inr p.1, W.i (p.2 : Int))] := by
        rw [List.take_add_one, hpi]
        show (ps.take i ++ [p]).map _ = _
        rw [List.map_append]
        rfl
      have hg : getK (plK (ps.take i)) (.inr p.1) = none := by
        have e := plK_get (nm := p.1) (ps := ps.take i)
        rw [decide_eq_false hnew] at e
        exact Option.not_isSome_iff_eq_none.mp (by rw [e]; exact Bool.false_ne_true)
      have hint : PySem.intText? (toString (p.2 : Int) : Str) = some (p.2 : Int) := by
        rcases (show p.2 = 1 ∨ p.2 = 2 ∨ p.2 = 3 by omega) with e | e | e <;> rw [e] <;> decide +kernel
      have hlen : (toString (p.2 : Int) : Str).length ≤ 640 := by
        rcases (show p.2 = 1 ∨ p.2 = 2 ∨ p.2 = 3 by omega) with e | e | e <;> rw [e] <;> decide +kernel
      refine sw_dput ?_
      walk_at "tv"
      refine r2_ixL (x := .str (toString (p.2 : Int))) rfl ?_
      walk_at "tv"
      refine rl_intS hint hlen ?_
      walk_at "tv"
      refine r2_ixL (x := .str p.1) rfl ?_
      refine ⟨a, plK (ps.take i), .inr p.1, rfl, rfl, h1, by rw [List.length_map, List.length_take, sizeLine_eq]; omega, ?_⟩
      rw [storeK_new hg]
      refine ⟨_, _, _, _, rfl, by rw [put_same, tk], by rw [put_ne nla, show i + 1 - ps.length = i - ps.length by omega]; exact h2, fun c c1 c2 => by rw [put_ne c1]; exact h3 c c1 c2⟩
    · obtain ⟨ln, hli⟩ : ∃ ln, ls[i - ps.length]? = some ln := by
        have : i - ps.length < ls.length := by rw [rows, List.length_append, List.length_map, List.length_map] at hib; omega
        exact ⟨ls[i - ps.length], by simp [this]⟩
      obtain rfl : r = lrow ln := by
        rw [rows, List.getElem?_append_right (by simp; omega), List.length_map, List.getElem?_map, hli] at hr
        exact (Option.some.inj hr).symm
      obtain ⟨db, de, m1, m2, m3, m4⟩ := ok.lns ln (List.mem_of_getElem? hli)
      have few := ok.few
      have lf := ok.lf
      have hta : ps.take i = ps := List.take_of_length_le (by omega)
      rw [hta] at h1
      have x0 : atI ((lrow ln).map PyData.str) 0 = some (.str "line") := L2.atI_nat (j := 0) rfl
      have x1 : atI ((lrow ln).map PyData.str) 1 = some (.str ln.1) := L2.atI_nat (j := 1) rfl
      have x2 : atI ((lrow ln).map PyData.str) 2 = some (.str ln.2.1) := L2.atI_nat (j := 2) rfl
      refine .inr ⟨a, _, rfl, x0, false, rfl, (fun z => nomatch z), fun _ => ?_⟩
      refine sw_if (et_and (et_test (ev_op (ev_cb (ev_cons (ev_var rfl (ev_nil (rl_lenM h2 ?_))))))))
      walk_at "tv"
      refine ⟨_, rfl, fun _ => ?_, fun z => ?_⟩
      · walk_at "tv"
        have hsz : ln.2.2.length ≤ 3 := by have := (ok.nms _ m2).2.2; omega
        refine ⟨a, ps, ln.1, ln.2.1, db, de, ln.2.2, by rw [show (ln.2.2.map fun w => PyData.str (wtext w)) = (ln.2.2.map wtext).map .str by rw [List.map_map]; rfl]; rfl, h1, plK_at ok.nd m1, plK_at ok.nd m2, m3, by omega, m4, true, rfl, fun _ => ?_, fun z => nomatch z⟩
        walk_at "tv"
        refine ev_bm ?_
        walk_at "tv"
        refine ⟨ty_M h2, ?_⟩
        walk_at "tv"
        refine r2_ixL x1 ?_
        walk_at "tv"
        refine r2_ixL x2 ?_
        walk_at "tv"
        refine ev_lcL (xs := ln.2.2) (h := fun w => .str (wtext w)) (f := fun w => .tuple [.str (sign w.1), .int (w.2 : Int)]) (own_name (by simp)) ?_
        walk_at "tv"
        refine ⟨3, rfl, ?_⟩
        walk_at "tv"
        refine ⟨_, rfl, ?_⟩
        rw [show cutD ((lrow ln).map PyData.str) (some 3) none = ln.2.2.map fun w => PyData.str (wtext w) by
          rw [show (3 : Int) = ((3 : Nat) : Int) from rfl, cutD_drop]
          show (ln.2.2.map wtext).map PyData.str = _
          rw [List.map_map]
          rfl]
        refine ⟨rfl, by rw [sizeLine_eq]; omega, fun j w hw => ?_, ?_⟩
        · have hw3 := (m4 j w hw).1
          have nk := num_ok hw3
          have es : sign w.1 = ⟨#[if w.1 then 43 else 61]⟩ := by cases w.1 <;> decide +kernel
          have hz : (wtext w).length ≤ sizeLine := by
            have e : (wtext w).length = (toString (w.2 : Int) : Str).length + 1 := by
              rw [wtext, es, ← str_len]
              show ((#[_] : Array Nat) ++ (toString (w.2 : Int) : Str).cps).toList.length = _
              simp [Str.length]
            have := nk.hi
            rw [e, sizeLine_eq]
            omega
          have e1 : cutS (wtext w) (some 1) none = toString (w.2 : Int) := by rw [wtext, es]; exact cut_tail _ _
          have hc : (wtext w).cps.toList[0]? = some (if w.1 then 43 else 61) := by
            rw [wtext, es]
            show ((#[_] : Array Nat) ++ (toString (w.2 : Int) : Str).cps).toList[0]? = _
            simp
          have hint : PySem.intText? (toString (w.2 : Int) : Str) = some (w.2 : Int) := by
            rcases (show w.2 = 0 ∨ w.2 = 1 ∨ w.2 = 2 ∨ w.2 = 3 by omega) with e | e | e | e <;> rw [e] <;> decide +kernel
          have hlen : (toString (w.2 : Int) : Str).length ≤ 640 := by have := nk.hi; omega
          unfold Turn1
          walk_at "tv"
          refine ⟨rfl, ?_⟩
          walk_at "tv"
          refine r2_ixS hz (show atI (wtext w).cps.toList ((0 : Nat) : Int) = _ from L2.atI_nat hc) ?_
          rw [← es]
          refine ev_cons (ev_cb (ev_cons (ev_slS (ev_var rfl (eo_some (ev_int ⟨1, rfl, eo_none ⟨_, rfl, hz, ?_⟩⟩))))))
          rw [e1]
          walk_at "tv"
          refine rl_intS hint hlen ?_
          walk_at "tv"
          exact ⟨_, rfl, by show 2 ≤ sizeLine; decide, rfl, rfl⟩
        walk_at "tv"
        refine ⟨[.str ln.1, .str ln.2.1, shN ln.2.2], rfl, by show 3 ≤ sizeLine; decide, ?_⟩
        walk_at "tv"
        refine rm_append h2 (by simp only [List.length_map, List.length_take]; rw [sizeLine_eq]; omega) ?_
        refine ⟨_, _, _, _, rfl, by rw [put_ne nla.symm, List.take_of_length_le (by omega)]; exact h1, ?_, fun c c1 c2 => by rw [put_ne c2]; exact h3 c c1 c2⟩
        rw [put_same, show i + 1 - ps.length = (i - ps.length) + 1 by omega, List.take_add_one, hli]
        show _ = some (Bx.l (((ls.take (i - ps.length) ++ [ln]).map lnD).map W.d))
        rw [List.map_append, List.map_append]
        rfl
      · exfalso
        have z' := of_decide_eq_false z
        simp only [List.length_map, List.length_take] at z'
        have : i - ps.length < ls.length := (List.getElem?_eq_some_iff.mp hli).1
        omega
  rintro ρ V ⟨x3, x4, x5, x6, rfl, h1, h2, h3⟩
  have hn : (((rows ps ls).map (Txt.join (Str.ofString " "))).map PyData.str).length = ps.length + ls.length := by
    rw [List.length_map, List.length_map, rows, List.length_append, List.length_map, List.length_map]
  rw [hn, List.take_of_length_le (by omega)] at h1
  rw [hn, List.take_of_length_le (by omega)] at h2
  have few := ok.few
  show SW K (tRet (tTup _)) _ V (retE P)
  refine sw_freeze (i := 2) (xs := ls.map lnD) rfl h2 ?_
  have h1' : cut V l a = some (.k (dts (plKv ps))) := by
    rw [cut_ne nla.symm, h1, dts, plKv, List.map_map]
    rfl
  refine sw_ret (ev_less (ev_tupW (ev_cons (ev_tupItems (ev_var rfl ⟨a, plKv ps, rfl, h1', ?_⟩)))))
  walk_at "tv"
  refine ⟨by show 2 ≤ sizeLine; decide, U, fun c b z => ?_, q⟩
  have n1 : c ≠ a := fun y => by rw [y, ha] at z; cases z
  have n2 : c ≠ l := fun y => by rw [y, hlU] at z; cases z
  rw [cut_ne n2, h3 c n1 n2]
  exact z
theorem cal_check_place (B : Bi mg) (T : At K mg s_check_place "check_place") (c_Plan___contains__ : MCal Pg w K mg base C_Plan s_Plan___contains__ "__contains__" "Plan.__contains__" 1 ["self", "value"] (p_plan_contains K C_Plan))  (cl_Plan : ClsAt K mg "Plan" C_Plan) (na_text : NoAttr K C_Plan "text") (na_places : NoAttr K C_Plan "places") (na_lines : NoAttr K C_Plan "lines") : Cal Pg w K mg base s_check_place "check_place" 2 ["plan", "value"] (p_check_place K C_Plan) := by
  refine calW T sc_check_place (fun _ _ _ _ _ _ us hl => match us, hl with | [_, _], _ => rfl) (by rintro ws U P ⟨ps, ls, n, rfl, _⟩; rfl) (fun f cdv A outer s H E hr gd => ?_)
  have hu : (A.deeper (envOfC "check_place" (defScope s_check_place) s.heap.objs.size f cdv)).units + 70 < cLine := by have := hr.un; omega
  refine ⟨_, (pss_one (ps_if (pt_cmpR (opNotInO c_Plan___contains__ hr gd) (pv 1) (pv 0) (by rfl))
        (pss_one ps_never)
        pss_nil)), fun ws U P h => ?_⟩
  try dsimp only [cxOf, Cx.nox]
  obtain ⟨ps, ls, n, rfl, hz, hn, q⟩ := h
  walk_at "tv"
  refine r2_inO (.inr rfl) ⟨ps, ls, n, rfl, hz, _, rfl, ?_⟩
  refine ⟨false, by simp [hn], (fun z => nomatch z), fun _ => ?_⟩
  walk_at "tv"
  exact q
theorem cal_depth_of (B : Bi mg) (T : At K mg s_depth_of "depth_of") (c_check_place : Cal Pg w K mg base s_check_place "check_place" 2 ["plan", "value"] (p_check_place K C_Plan))  (cl_Plan : ClsAt K mg "Plan" C_Plan) (na_text : NoAttr K C_Plan "text") (na_places : NoAttr K C_Plan "places") (na_lines : NoAttr K C_Plan "lines") : Cal Pg w K mg base s_depth_of "depth_of" 3 ["plan", "place"] (p_depth_of K C_Plan) := by
  refine calW T sc_depth_of (fun _ _ _ _ _ _ us hl => match us, hl with | [_, _], _ => rfl) (by rintro ws U P ⟨ps, ls, n, d, rfl, _⟩; rfl) (fun f cdv A outer s H E hr gd => ?_)
  have hu : (A.deeper (envOfC "depth_of" (defScope s_depth_of) s.heap.objs.size f cdv)).units + 70 < cLine := by have := hr.un; omega
  refine ⟨_, (pss_cons (ps_expr (pe_callC c_check_place hr gd (by rfl) (pa_cons (pv 0) (pa_cons (pv 1) pa_nil))))
      (pss_one (ps_ret (peDGet hu (pe_callTy (bDictPt K rfl) (by rfl) B.dict (by decide +kernel) (pa_cons (peFld K (pv 0)) pa_nil)) (pv 1) (fun _ _ => rfl))))), fun ws U P h => ?_⟩
  try dsimp only [cxOf, Cx.nox]
  obtain ⟨ps, ls, n, d, rfl, hz, nd, hn, q⟩ := h
  walk_at "tv"
  refine ⟨ps, ls, n, rfl, hz, List.mem_map_of_mem (f := (·.1)) hn, ?_⟩
  walk_at "tv"
  refine ev_less (ev_dget (ev_cb (ev_cons (ev_fld (ev_var rfl ⟨C_Plan, planF K ps ls, _, .inr rfl, cl_Plan.c, na_places, planF_places, ev_nil (rl_dictPt ?_ (by rw [List.length_map]; omega) (fun dd hdd => ?_))⟩)))))
  · rw [plKv, List.map_map]
    have e : (ps.map fun p => ((Sum.inr p.1 : Key))) = (ps.map (·.1)).map Sum.inr := by rw [List.map_map]; rfl
    show (ps.map fun p => ((Sum.inr p.1 : Key))).Nodup
    rw [e]
    exact List.Pairwise.map _ (fun a b z w => z (Sum.inr.inj w)) nd
  · have e : dts (plKv ps) = plK ps := by rw [dts, plKv, List.map_map]; rfl
    refine ev_var rfl ⟨plK ps, .inr n, _, .inl ⟨dd, rfl, by rw [put_same, e]⟩, rfl, plK_at nd hn, U, fun a b z => ?_, q⟩
    rw [put_ne (fun y => by rw [y, hdd] at z; cases z)]
    exact z
theorem cal_way_end (B : Bi mg) (T : At K mg s_way_end "way_end") (c_is_integer : Cal Pg w K mg base s_is_integer "is_integer" 1 ["value"] p_is_integer)  (cl_Plan : ClsAt K mg "Plan" C_Plan) (na_text : NoAttr K C_Plan "text") (na_places : NoAttr K C_Plan "places") (na_lines : NoAttr K C_Plan "lines") : Cal Pg w K mg base s_way_end "way_end" 2 ["plan", "place", "way"] (p_way_end K C_Plan) := by
  refine calW T sc_way_end (fun _ _ _ _ _ _ us hl => match us, hl with | [_, _, _], _ => rfl) (by rintro ws U P ⟨ps, ls, p, s0, way, rfl, _⟩; rfl) (fun f cdv A outer s H E hr gd => ?_)
  have hu : (A.deeper (envOfC "way_end" (defScope s_way_end) s.heap.objs.size f cdv)).units + 70 < cLine := by have := hr.un; omega
  refine ⟨_, (pss_cons (ps_if (pt_not (pt_val (pe_callB (bIsi K) (by rfl) B.isinstance (by decide +kernel) (pa_cons (pv 2) (pa_cons (pe_bltn (v := .ty "tuple") (u := .type "tuple") (by rfl) B.tuple (by decide +kernel) rfl) pa_nil)))))
        (pss_one (ps_ret pe_non))
        pss_nil)
      (pss_cons (ps_set (i := 3) sc_way_end.nd rfl (.inl rfl) (pv 1))
      (pss_cons (ps_for PassesOwn.never rfl (piT K (pv 2)) (pg_name (i := 4) sc_way_end.nd rfl (.inl rfl))
        (pss_cons (ps_if (PW.pt (pw_or (pt_not (pt_val (pe_callC c_is_integer hr gd (by rfl) (pa_cons (pv 4) pa_nil)))) (pw_or (pt_not (pt_chain op_le op_lt pe_int (pv 4) (pe_callB (bLen K) (by rfl) B.len (by decide +kernel) (pa_cons (peFld K (pv 0)) pa_nil)))) (pw_or1 (pt_cmpR op_ne (pe_ix (ixT K) (pe_ix (ixT K) (peFld K (pv 0)) (pv 4) (fun _ _ => rfl)) pe_int (fun _ _ => rfl)) (pv 3) (nomark _))))))
        (pss_one (ps_ret pe_non))
        pss_nil)
      (pss_one (ps_set (i := 3) sc_way_end.nd rfl (.inl rfl) (pe_ix (ixT K) (pe_ix (ixT K) (peFld K (pv 0)) (pv 4) (fun _ _ => rfl)) pe_int (fun _ _ => rfl))))))
      (pss_one (ps_ret (pv 3)))))), fun ws U P h => ?_⟩
  try dsimp only [cxOf, Cx.nox]
  obtain ⟨ps, ls, p, s0, way, rfl, hp, q⟩ := h
  walk_at "tv"
  refine ⟨true, rfl, (fun z => nomatch z), fun _ => ?_⟩
  walk_at "tv"
  refine sw_for (iw_tup (ev_var rfl ⟨_, rfl, fun i ρ V => ∃ x4, ρ = [some (plW K C_Plan ps ls), some (.s p), some (.d (wyN way)), some (.s (TB.nd ls (p, s0) (way.take i)).1), x4] ∧ V = U, ⟨none, rfl, rfl⟩, ?_, ?_⟩))
  · rintro i ρ V hi ⟨x4, rfl, rfl⟩
    have hib : i < way.length := by simpa using hi
    obtain ⟨l, h1, h2, h3, h4, h5⟩ := pth_line hp hib
    show GW K _ (.d ((way.map fun n : Nat => PyData.int (n : Int)).getD i .none)) _ _ _
    rw [getD_at h1]
    generalize way.getD i 0 = k at h1 h2 h3
    have hat : atI (ls.map lnD) (k : Int) = some (lnD l) := atI_at (by rw [List.getElem?_map, h2]; rfl)
    walk_at "tv"
    refine ⟨(k : Int), rfl, true, rfl, fun _ => ?_, fun z => nomatch z⟩
    walk_at "tv"
    refine ⟨true, by rw [decide_eq_true]; omega, fun _ => ?_, fun z => nomatch z⟩
    walk_at "tv"
    refine ev_fld (ev_var rfl ⟨C_Plan, planF K ps ls, _, .inr rfl, cl_Plan.c, na_lines, planF_lines, ?_⟩)
    walk_at "tv"
    refine ⟨true, by rw [List.length_map, decide_eq_true]; omega, fun _ => ?_, fun z => nomatch z⟩
    walk_at "tv"
    refine ev_fld (ev_var rfl ⟨C_Plan, planF K ps ls, _, .inr rfl, cl_Plan.c, na_lines, planF_lines, ?_⟩)
    walk_at "tv"
    refine r2_ixT hat ?_
    walk_at "tv"
    refine r2_ixT (x := .str l.1) rfl ?_
    walk_at "tv"
    rw [h4, decide_eq_true rfl]
    refine ⟨false, rfl, (fun z => nomatch z), fun _ => ?_⟩
    refine sw_next ?_
    refine sw_asg (ev_op (ev_op ?_))
    refine ev_fld (ev_var rfl ⟨C_Plan, planF K ps ls, _, .inr rfl, cl_Plan.c, na_lines, planF_lines, ?_⟩)
    walk_at "tv"
    refine r2_ixT hat ?_
    walk_at "tv"
    refine r2_ixT (x := .str l.2.1) rfl ?_
    refine gw_name ?_
    refine ⟨some (.i (k : Int)), ?_, rfl⟩
    rw [h5]
    rfl
  · rintro ρ V ⟨x4, rfl, rfl⟩
    walk_at "tv"
    rw [List.length_map, List.take_length]
    exact q
theorem cal_joined_way (B : Bi mg) (T : At K mg s_joined_way "joined_way") (c_kept_shift : Cal Pg w K mg base s_kept_shift "kept_shift" 4 ["depth"] p_kept_shift) (c_joined_words : Cal Pg w K mg base s_joined_words "joined_words" 2 ["one", "other"] p_joined_words) (c_depth_of : Cal Pg w K mg base s_depth_of "depth_of" 3 ["plan", "place"] (p_depth_of K C_Plan))  (cl_Plan : ClsAt K mg "Plan" C_Plan) (na_text : NoAttr K C_Plan "text") (na_places : NoAttr K C_Plan "places") (na_lines : NoAttr K C_Plan "lines") : Cal Pg w K mg base s_joined_way "joined_way" 5 ["plan", "place", "way"] (p_joined_way K C_Plan) := by
  refine calW T sc_joined_way (fun _ _ _ _ _ _ us hl => match us, hl with | [_, _, _], _ => rfl) (by rintro ws U P ⟨ps, ls, p, dn, way, rfl, _⟩; rfl) (fun f cdv A outer s H E hr gd => ?_)
  have hu : (A.deeper (envOfC "joined_way" (defScope s_joined_way) s.heap.objs.size f cdv)).units + 70 < cLine := by have := hr.un; omega
  refine ⟨_, (pss_cons (ps_set (i := 3) sc_joined_way.nd rfl (.inl rfl) (pe_callC c_kept_shift hr gd (by rfl) (pa_cons (pe_callC c_depth_of hr gd (by rfl) (pa_cons (pv 0) (pa_cons (pv 1) pa_nil))) pa_nil)))
      (pss_cons (ps_for PassesOwn.never rfl (piT K (pv 2)) (pg_name (i := 4) sc_joined_way.nd rfl (.inl rfl))
        (pss_one (ps_set (i := 3) sc_joined_way.nd rfl (.inl rfl) (pe_callC c_joined_words hr gd (by rfl) (pa_cons (pv 3) (pa_cons (pe_ix (ixT K) (pe_ix (ixT K) (peFld K (pv 0)) (pv 4) (fun _ _ => rfl)) pe_int (fun _ _ => rfl)) pa_nil))))))
      (pss_one (ps_ret (pv 3))))), fun ws U P h => ?_⟩
  try dsimp only [cxOf, Cx.nox]
  obtain ⟨ps, ls, p, dn, way, rfl, ok, hin, hp, q⟩ := h
  have lok := own_ls ok
  obtain ⟨_, d1, d3⟩ := ok.nms _ hin
  have dn0 : dn = depOf ps p := (depOf_eq ok.nd hin).symm
  have hs1 : p ∈ ps.map (·.1) ∧ (kept dn).length = depOf ps p := ⟨List.mem_map_of_mem (f := (·.1)) hin, by simp [kept, dn0]⟩
  walk_at "tv"
  refine ⟨ps, ls, p, dn, rfl, ok.few, ok.nd, hin, ?_⟩
  walk_at "tv"
  have d1' : 1 ≤ dn := d1
  have d3' : dn ≤ 3 := d3
  refine ⟨(dn : Int), rfl, by omega, by omega, ?_⟩
  rw [kept_shI, ← shN_sh]
  walk_at "tv"
  refine sw_for (iw_tup (ev_var rfl ⟨_, rfl, fun i ρ V => ∃ x4, ρ = [some (plW K C_Plan ps ls), some (.s p), some (.d (wyN way)), some (.d (shN (TB.nd ls (p, kept dn) (way.take i)).2)), x4] ∧ V = U, ⟨none, rfl, rfl⟩, ?_, ?_⟩))
  · rintro i ρ V hi ⟨x4, rfl, rfl⟩
    have hib : i < way.length := by simpa using hi
    obtain ⟨l, h1, h2, h3, h4, h5⟩ := pth_line hp hib
    have nok := hp.nd_ok lok hs1 i (Nat.le_of_lt hib)
    have lm := List.mem_of_getElem? h2
    show GW K _ (.d ((way.map fun n : Nat => PyData.int (n : Int)).getD i .none)) _ _ _
    rw [getD_at h1]
    generalize way.getD i 0 = k at h1 h2 h3
    have hat : atI (ls.map lnD) (k : Int) = some (lnD l) := atI_at (by rw [List.getElem?_map, h2]; rfl)
    walk_at "tv"
    refine ev_fld (ev_var rfl ⟨C_Plan, planF K ps ls, _, .inr rfl, cl_Plan.c, na_lines, planF_lines, ?_⟩)
    walk_at "tv"
    refine r2_ixT hat ?_
    walk_at "tv"
    refine r2_ixT (x := shN l.2.2) rfl ?_
    walk_at "tv"
    refine ⟨shI (TB.nd ls (p, kept dn) (way.take i)).2, shI l.2.2, by rw [← shN_sh, ← shN_sh], by rw [shI, List.length_map, lok.len l lm]; have := lok.dp _ (lok.fin l lm); omega, leads_shI fun j z hj hz => by rw [shI, List.length_map, nok.2, ← h4]; exact (lok.few l lm j z hj).2 hz, ?_⟩
    rw [jn_shI, ← shN_sh]
    walk_at "tv"
    refine ⟨some (.i (k : Int)), ?_, rfl⟩
    rw [h5]
    rfl
  · rintro ρ V ⟨x4, rfl, rfl⟩
    walk_at "tv"
    rw [List.length_map, List.take_length]
    exact q
theorem cal_is_ring (B : Bi mg) (T : At K mg s_is_ring "is_ring") (c_way_end : Cal Pg w K mg base s_way_end "way_end" 2 ["plan", "place", "way"] (p_way_end K C_Plan))  (cl_Plan : ClsAt K mg "Plan" C_Plan) (na_text : NoAttr K C_Plan "text") (na_places : NoAttr K C_Plan "places") (na_lines : NoAttr K C_Plan "lines") : Cal Pg w K mg base s_is_ring "is_ring" 3 ["plan", "place", "value"] (p_is_ring K C_Plan) := by
  refine calW T sc_is_ring (fun _ _ _ _ _ _ us hl => match us, hl with | [_, _, _], _ => rfl) (by rintro ws U P ⟨ps, ls, p, s0, way, rfl, _⟩; rfl) (fun f cdv A outer s H E hr gd => ?_)
  have hu : (A.deeper (envOfC "is_ring" (defScope s_is_ring) s.heap.objs.size f cdv)).units + 70 < cLine := by have := hr.un; omega
  refine ⟨_, (pss_one (ps_ret (pe_and (pe_cmpR op_eq (pe_callC c_way_end hr gd (by rfl) (pa_cons (pv 0) (pa_cons (pv 1) (pa_cons (pv 2) pa_nil)))) (pv 1) (nomark _)) (pe_one (pe_cmpR op_gt (pe_callB (bLen K) (by rfl) B.len (by decide +kernel) (pa_cons (pv 2) pa_nil)) pe_int (nomark _)))))), fun ws U P h => ?_⟩
  try dsimp only [cxOf, Cx.nox]
  obtain ⟨ps, ls, p, s0, way, rfl, hp, ne, e, q⟩ := h
  walk_at "tv"
  refine ⟨ps, ls, p, s0, way, rfl, hp, ?_⟩
  walk_at "tv"
  refine ⟨true, by rw [e]; rw [decide_eq_true rfl], fun _ => ?_, fun z => nomatch z⟩
  walk_at "tv"
  rw [show decide ((0 : Int) < (((way.map fun n : Nat => PyData.int (n : Int)).length : Nat) : Int)) = true by
    rw [decide_eq_true_eq, List.length_map]
    have : way.length ≠ 0 := fun z => ne (List.length_eq_zero_iff.mp z)
    omega]
  exact q
theorem cal_ring_time (B : Bi mg) (T : At K mg s_ring_time "ring_time") (c_check_place : Cal Pg w K mg base s_check_place "check_place" 2 ["plan", "value"] (p_check_place K C_Plan)) (c_joined_way : Cal Pg w K mg base s_joined_way "joined_way" 5 ["plan", "place", "way"] (p_joined_way K C_Plan)) (c_is_ring : Cal Pg w K mg base s_is_ring "is_ring" 3 ["plan", "place", "value"] (p_is_ring K C_Plan))  (cl_Plan : ClsAt K mg "Plan" C_Plan) (na_text : NoAttr K C_Plan "text") (na_places : NoAttr K C_Plan "places") (na_lines : NoAttr K C_Plan "lines") : Cal Pg w K mg base s_ring_time "ring_time" 6 ["plan", "place", "way"] (p_ring_time K C_Plan) := by
  refine calW T sc_ring_time (fun _ _ _ _ _ _ us hl => match us, hl with | [_, _, _], _ => rfl) (by rintro ws U P ⟨ps, ls, p, dn, way, rfl, _⟩; rfl) (fun f cdv A outer s H E hr gd => ?_)
  have hu : (A.deeper (envOfC "ring_time" (defScope s_ring_time) s.heap.objs.size f cdv)).units + 70 < cLine := by have := hr.un; omega
  refine ⟨_, (pss_cons (ps_expr (pe_callC c_check_place hr gd (by rfl) (pa_cons (pv 0) (pa_cons (pv 1) pa_nil))))
      (pss_cons (ps_if (pt_not (pt_val (pe_callC c_is_ring hr gd (by rfl) (pa_cons (pv 0) (pa_cons (pv 1) (pa_cons (pv 2) pa_nil))))))
        (pss_one ps_never)
        pss_nil)
      (pss_cons (ps_set (i := 3) sc_ring_time.nd rfl (.inl rfl) (pe_callC c_joined_way hr gd (by rfl) (pa_cons (pv 0) (pa_cons (pv 1) (pa_cons (pv 2) pa_nil)))))
      (pss_cons (ps_for PassesOwn.never rfl (piEnT K (by rfl) B.enumerate (pa_cons (pv 3) pa_nil)) (pgT K (n := 2) rfl (pgs_cons (pg_name (i := 4) sc_ring_time.nd rfl (.inl rfl)) (pgs_cons (pg_name (i := 5) sc_ring_time.nd rfl (.inl rfl)) pgs_nil)))
        (pss_one (ps_if (PW.pt (pw_and (pt_cmpR op_eq (pe_ix (ixT K) (pv 5) pe_int (fun _ _ => rfl)) pe_str (nomark _)) (pw_and1 (pt_cmpR op_gt (pe_ix (ixT K) (pv 5) pe_int (fun _ _ => rfl)) pe_int (nomark _)))))
        (pss_one (ps_ret (pe_tup (pa_cons pe_str (pa_cons (pv 4) pa_nil)))))
        pss_nil)))
      (pss_one (ps_ret (pe_tup (pa_cons pe_str (pa_cons (pe_callTy (bTup K) (by rfl) B.tuple (by decide +kernel) (pa_cons (pe_lc (own := [("word", 5)]) rfl sc_ring_time.nd (piT K (pv 3)) (blkOk_by (N := N_ring_time) (sc := defScope s_ring_time) (by decide +kernel)) (fun _ _ _ _ _ => (pg_name (i := 5) sc_ring_time.nd rfl (.inl rfl))) (fun _ _ _ _ _ => pts_nil) (fun _ _ _ _ _ => (pe_ix (ixT K) (pv 5) pe_int (fun _ _ => rfl)))) pa_nil)) pa_nil))))))))), fun ws U P h => ?_⟩
  try dsimp only [cxOf, Cx.nox]
  obtain ⟨ps, ls, p, dn, way, rfl, ok, hin, hp, ne, e, q⟩ := h
  have lok := own_ls ok
  have hs1 : p ∈ ps.map (·.1) ∧ (kept dn).length = depOf ps p := ⟨List.mem_map_of_mem (f := (·.1)) hin, by simp [kept, depOf_eq ok.nd hin]⟩
  have nok := hp.nd_ok lok hs1 way.length (Nat.le_refl _)
  rw [List.take_length] at nok
  walk_at "tv"
  refine ⟨ps, ls, p, rfl, ok.few, hs1.1, ?_⟩
  walk_at "tv"
  refine ⟨ps, ls, p, kept dn, way, rfl, hp, ne, e, true, rfl, (fun z => nomatch z), fun _ => ?_⟩
  walk_at "tv"
  refine ⟨ps, ls, p, dn, way, rfl, ok, hin, hp, ?_⟩
  have l3 : (TB.nd ls (p, kept dn) way).2.length ≤ 3 := by rw [nok.2]; exact lok.dp _ nok.1
  generalize (TB.nd ls (p, kept dn) way).2 = S at q l3
  walk_at "tv"
  refine sw_for (iw_enumT ?_)
  walk_at "tv"
  refine ⟨S.map wdN, rfl, fun i ρ V => (∃ x4 x5, ρ = [some (plW K C_Plan ps ls), some (.s p), some (.d (wyN way)), some (.d (shN S)), x4, x5] ∧ V = U) ∧ ∀ j w, j < i → S[j]? = some w → (w.1 && decide (0 < w.2)) = false, ⟨⟨none, none, rfl, rfl⟩, fun j w h => absurd h (Nat.not_lt_zero _)⟩, ?_, ?_⟩
  · rintro i ρ V hi ⟨⟨x4, x5, rfl, rfl⟩, hno⟩
    have hib : i < S.length := by simpa using hi
    have hw : S[i]? = some S[i] := List.getElem?_eq_getElem hib
    generalize S[i] = w at hw
    show GW K _ (.d (.tuple [.int (i : Nat), (S.map wdN).getD i .none])) _ _ _
    rw [getD_at hw]
    refine gw_pair ?_
    walk_at "tv"
    refine r2_ixT (x := .str (sign w.1)) rfl ?_
    walk_at "tv"
    rw [sign_eqp]
    have yes_ : (w.1 && decide (0 < w.2)) = true → (retE P).rt (.t [.str "rises", .int (i : Int)]) V := fun hy => by
      have : rises S = some i := by
        rw [rises, List.findIdx?_eq_some_iff_getElem]
        refine ⟨hib, by rw [(List.getElem?_eq_some_iff.mp hw).2]; exact hy, fun j hj => ?_⟩
        have := hno j S[j] hj (List.getElem?_eq_getElem _)
        rw [this]
        exact Bool.false_ne_true
      rw [told, this] at q
      exact q
    have go : (w.1 && decide (0 < w.2)) = false → ∀ j w, j < i + 1 → S[j]? = some w → (w.1 && decide (0 < w.2)) = false := fun hy j w2 hj hw2 => by
      by_cases z : j = i
      · rw [z, hw] at hw2
        rw [← Option.some.inj hw2]
        exact hy
      · exact hno j w2 (by omega) hw2
    refine ⟨w.1, rfl, fun h1 => ?_, fun h0 => ?_⟩
    · walk_at "tv"
      refine r2_ixT (x := .int (w.2 : Int)) rfl ?_
      walk_at "tv"
      refine ⟨_, rfl, fun h2 => ?_, fun h2 => ?_⟩
      · walk_at "tv"
        refine ⟨[.str "rises", .int (i : Int)], rfl, (show 2 ≤ sizeLine by decide), yes_ ?_⟩
        rw [h1, Bool.true_and, decide_eq_true_eq]
        have := of_decide_eq_true h2
        omega
      · refine sw_next ⟨⟨_, _, rfl, rfl⟩, go ?_⟩
        rw [h1, Bool.true_and, decide_eq_false_iff_not]
        have := of_decide_eq_false h2
        omega
    · refine ⟨(fun z => nomatch z), fun _ => ?_⟩
      exact sw_next ⟨⟨_, _, rfl, rfl⟩, go (by rw [h0]; rfl)⟩
  · rintro ρ V ⟨⟨x4, x5, rfl, rfl⟩, hno⟩
    rw [List.length_map] at hno
    have : rises S = none := by
      rw [rises, List.findIdx?_eq_none_iff]
      intro w hw
      obtain ⟨j, hj⟩ := List.mem_iff_getElem?.mp hw
      exact hno j w (List.getElem?_eq_some_iff.mp hj).1 hj
    rw [told, this] at q
    refine sw_ret (ev_tup (ev_cons (ev_str (ev_cons (ev_cb (ev_cons ?_))))))
    refine ev_lcT (xs := S) (h := wdN) (f := fun w => .int (w.2 : Int)) (own_name (by simp)) ?_
    walk_at "tv"
    refine ⟨rfl, by rw [sizeLine_eq]; omega, fun i w hw => ?_, ?_⟩
    · unfold Turn1
      walk_at "tv"
      refine ⟨rfl, ?_⟩
      walk_at "tv"
      refine r2_ixT (x := .int (w.2 : Int)) rfl ?_
      exact ⟨rfl, rfl⟩
    walk_at "tv"
    refine ⟨[.str "stays", wyN (S.map (·.2))], by rw [wyN, List.map_map]; rfl, (show 2 ≤ sizeLine by decide), q⟩
theorem cal__law_of (B : Bi mg) (T : At K mg s__law_of "_law_of") (c__law_take : Cal Pg w K mg base s__law_take "_law_take" 1 ["pot", "upto"] pTake)   : Cal Pg w K mg base s__law_of "_law_of" 2 ["pot", "some"] pOf2 := by
  refine calW T sc__law_of (fun _ _ _ _ _ _ us hl => match us, hl with | [_, _], _ => rfl) (by rintro ws U P (⟨p, n, m, rfl, _⟩ | ⟨p, n, m, rfl, _⟩) <;> rfl) (fun f cdv A outer s H E hr gd => ?_)
  have hu : (A.deeper (envOfC "_law_of" (defScope s__law_of) s.heap.objs.size f cdv)).units + 70 < cLine := by have := hr.un; omega
  refine ⟨_, (pss_one (ps_ret (pe_ix (ixLS K) (pv 1) (pe_callC c__law_take hr gd (by rfl) (pa_cons (pv 0) (pa_cons (pe_callB (bLen K) (by rfl) B.len (by decide +kernel) (pa_cons (pv 1) pa_nil)) pa_nil))) (fun _ _ => rfl)))), fun ws U P h => ?_⟩
  try dsimp only [cxOf, Cx.nox]
  rcases h with ⟨p, n, xs, rfl, hP, hn, hx, hz, q⟩ | ⟨p, n, z, rfl, hP, hn, hx, hz, q⟩
  · walk_at "tv"
    have hpos : 0 < xs.length := List.length_pos_iff.mpr hx
    refine ⟨p, n, xs.length, rfl, hP, hn, by omega, by omega, fun d U' h0 h1 hP' he => ?_⟩
    obtain ⟨k, rfl⟩ := Int.eq_ofNat_of_zero_le h0
    have hk : k < xs.length := by omega
    exact r2_ixLS_l (atI_at (x := xs[k]) (by simp [hk])) (q _ _ (List.getElem_mem hk) hP' he)
  · have hs : z.length ≤ sizeLine := by rw [sizeLine_eq]; omega
    walk_at "tv"
    refine rl_lenS hs ?_
    walk_at "tv"
    refine ⟨p, n, z.length, rfl, hP, hn, by omega, by omega, fun d U' h0 h1 hP' he => ?_⟩
    obtain ⟨k, rfl⟩ := Int.eq_ofNat_of_zero_le h0
    have hk : k < z.cps.toList.length := by rw [str_len]; omega
    exact r2_ixLS_s hs (c := z.cps.toList[k]) (L2.atI_nat (by simp [hk])) (q _ _ (List.getElem_mem hk) hP' he)
theorem cal__law_at_most (B : Bi mg) (T : At K mg s__law_at_most "_law_at_most")    : Cal Pg w K mg base s__law_at_most "_law_at_most" 1 ["one", "other"] p_law_at_most := by
  refine calW T sc__law_at_most (fun _ _ _ _ _ _ us hl => match us, hl with | [_, _], _ => rfl) (by rintro ws U P ⟨l, k, rfl, _⟩; rfl) (fun f cdv A outer s H E hr gd => ?_)
  have hu : (A.deeper (envOfC "_law_at_most" (defScope s__law_at_most) s.heap.objs.size f cdv)).units + 70 < cLine := by have := hr.un; omega
  refine ⟨_, (pss_one (ps_ret (pe_and (pe_cmpR op_eq (pe_callB (bLen K) (by rfl) B.len (by decide +kernel) (pa_cons (pv 0) pa_nil)) (pe_callB (bLen K) (by rfl) B.len (by decide +kernel) (pa_cons (pv 1) pa_nil)) (nomark _)) (pe_one (pe_callB (bAll K rfl) (by rfl) B.all (by decide +kernel) (pa_cons (pe_lc (own := [("mine", 2), ("its", 3)]) rfl sc__law_at_most.nd (piZ K (by rfl) B.zip (pa_cons (pv 0) (pa_cons (pv 1) pa_nil))) (blkOk_by (N := N__law_at_most) (sc := defScope s__law_at_most) (by decide +kernel)) (fun _ _ _ _ _ => (pgT K (n := 2) rfl (pgs_cons (pg_name (i := 2) sc__law_at_most.nd rfl (.inl rfl)) (pgs_cons (pg_name (i := 3) sc__law_at_most.nd rfl (.inl rfl)) pgs_nil)))) (fun _ _ _ _ _ => pts_nil) (fun _ _ _ _ _ => (pe_cmpR op_le (pv 2) (pv 3) (nomark _)))) pa_nil)))))), fun ws U P h => ?_⟩
  try dsimp only [cxOf, Cx.nox]
  obtain ⟨a, b, rfl, hz, q⟩ := h
  walk_at "tv"
  refine ⟨_, rfl, fun h1 => ?_, fun h0 => ?_⟩
  · walk_at "tv"
    refine ev_lcZ (xs := a) (ys := b) (h := PyData.int) (k := PyData.int) (f := fun m s => .bool (decide (m ≤ s))) (own_tup (owns_cons gname_mono (own_name (by simp)) (owns_cons gname_mono (own_name (by simp)) owns_nil))) ?_
    walk_at "tv"
    refine ⟨Or.inl rfl, small1000 (by omega), fun i x y hx hy => ?_, ?_⟩
    · unfold Turn1
      refine gw_pair ?_
      walk_at "tv"
      refine ⟨rfl, ?_⟩
      walk_at "tv"
      exact ⟨rfl, rfl⟩
    walk_at "tv"
    rw [show List.zipWith (fun m s : Int => PyData.bool (decide (m ≤ s))) a b = (List.zipWith (fun m s : Int => decide (m ≤ s)) a b).map PyData.bool by rw [List.map_zipWith]]
    refine rl_all ?_
    have hl : a.length = b.length := by
      simp at h1
      omega
    rw [show (List.zipWith (fun m s : Int => decide (m ≤ s)) a b).all id = atMost a b by rw [zip_all, atMost, decide_eq_true hl, Bool.true_and]]
    exact q
  · rw [am_ne (by simp at h0; omega)] at q
    exact q
theorem cal__law_shifted (B : Bi mg) (T : At K mg s__law_shifted "_law_shifted")    : Cal Pg w K mg base s__law_shifted "_law_shifted" 1 ["shift", "time"] p_law_shifted := by
  refine calW T sc__law_shifted (fun _ _ _ _ _ _ us hl => match us, hl with | [_, _], _ => rfl) (by rintro ws U P ⟨l, k, rfl, _⟩; rfl) (fun f cdv A outer s H E hr gd => ?_)
  have hu : (A.deeper (envOfC "_law_shifted" (defScope s__law_shifted) s.heap.objs.size f cdv)).units + 70 < cLine := by have := hr.un; omega
  refine ⟨_, (pss_one (ps_ret (pe_callTy (bTup K) (by rfl) B.tuple (by decide +kernel) (pa_cons (pe_lc (own := [("at", 2), ("word", 3), ("many", 4)]) rfl sc__law_shifted.nd (piEnT K (by rfl) B.enumerate (pa_cons (pv 0) pa_nil)) (blkOk_by (N := N__law_shifted) (sc := defScope s__law_shifted) (by decide +kernel)) (fun _ _ _ _ _ => (pgT K (n := 2) rfl (pgs_cons (pg_name (i := 2) sc__law_shifted.nd rfl (.inl rfl)) (pgs_cons (pgT K (n := 2) rfl (pgs_cons (pg_name (i := 3) sc__law_shifted.nd rfl (.inl rfl)) (pgs_cons (pg_name (i := 4) sc__law_shifted.nd rfl (.inl rfl)) pgs_nil))) pgs_nil)))) (fun _ _ _ _ _ => pts_nil) (fun _ _ _ _ _ => (pe_ifExp (pt_cmpR op_eq (pv 3) pe_str (nomark _)) (pe_op op_add (pe_ix (ixT K) (pv 1) (pv 2) (fun _ _ => rfl)) (pv 4)) (pv 4)))) pa_nil)))), fun ws U P h => ?_⟩
  try dsimp only [cxOf, Cx.nox]
  obtain ⟨l, ns, rfl, hz, hl, q⟩ := h
  walk_at "tv"
  refine ev_lcE (xs := l) (h := wd) (f := fun i w => .int (if w.1 then ns.getD i 0 + w.2 else w.2)) (own_tup (owns_cons gname_mono (own_name (by simp)) (owns_cons (gtup_mono (gcons_mono gname_mono (gcons_mono gname_mono gnil_mono))) (own_tup (owns_cons gname_mono (own_name (by simp)) (owns_cons gname_mono (own_name (by simp)) owns_nil))) owns_nil))) ?_
  walk_at "tv"
  refine ⟨rfl, small1000 (by omega), fun i w hn => ?_, ?_⟩
  · unfold Turn1
    refine gw_pair ?_
    walk_at "tv"
    refine gw_pair ?_
    walk_at "tv"
    refine ⟨rfl, ?_⟩
    walk_at "tv"
    rw [sign_eqp]
    refine ⟨w.1, rfl, fun hw => ?_, fun hw => ?_⟩
    · have hi := leads_lt hl hn hw
      walk_at "tv"
      refine r2_ixT (x := .int (ns.getD i 0)) (atI_at (by simp [List.getD_eq_getElem?_getD, hi])) ?_
      walk_at "tv"
      rw [if_pos hw]
      exact ⟨rfl, rfl⟩
    · walk_at "tv"
      rw [hw]
      exact ⟨rfl, rfl⟩
  · walk_at "tv"
    rw [show l.mapIdx (fun i w => PyData.int (if w.1 then ns.getD i 0 + w.2 else w.2)) = (mv l ns).map .int by rw [mv, map_mapIdx]]
    exact q
theorem cal__law_depth (B : Bi mg) (T : At K mg s__law_depth "_law_depth")    : Cal Pg w K mg base s__law_depth "_law_depth" 1 ["own", "place"] (p_depth_own K) := by
  refine calW T sc__law_depth (fun _ _ _ _ _ _ us hl => match us, hl with | [_, _], _ => rfl) (by rintro ws U P ⟨x, ps, ls, n, d, rfl, _⟩; rfl) (fun f cdv A outer s H E hr gd => ?_)
  have hu : (A.deeper (envOfC "_law_depth" (defScope s__law_depth) s.heap.objs.size f cdv)).units + 70 < cLine := by have := hr.un; omega
  refine ⟨_, (pss_one (ps_ret (peDGet hu (pe_callTy (bDictL K rfl) (by rfl) B.dict (by decide +kernel) (pa_cons (peDGet hu (pv 0) pe_str (fun _ _ => rfl)) pa_nil)) (pv 1) (fun _ _ => rfl)))), fun ws U P h => ?_⟩
  try dsimp only [cxOf, Cx.nox]
  obtain ⟨x, ps, ls, n, d, rfl, hd, hz, nd, hn, q⟩ := h
  refine sw_ret (ev_less (ev_dget (ev_cb (ev_cons (ev_dget (ev_var rfl (ev_str ⟨ownK ps ls, .inr "places", _, hd, rfl, ownK_places, ev_nil ?_⟩)))))))
  rw [show (ps.map fun p => PyData.tuple [.str p.1, .int (p.2 : Int)]) = (plKv ps).map Tv.pairD by rw [plKv, List.map_map]; rfl]
  refine rl_dictL (kvs := plKv ps) ?_ (fun dd hdd => ?_)
  · rw [plKv, List.map_map]
    have e : (ps.map fun p => ((Sum.inr p.1 : Key))) = (ps.map (·.1)).map Sum.inr := by rw [List.map_map]; rfl
    show (ps.map fun p => ((Sum.inr p.1 : Key))).Nodup
    rw [e]
    exact List.Pairwise.map _ (fun a b z w => z (Sum.inr.inj w)) nd
  · have e : dts (plKv ps) = plK ps := by rw [dts, plKv, List.map_map]; rfl
    refine ev_var rfl ⟨plK ps, .inr n, _, .inl ⟨dd, rfl, by rw [put_same, e]⟩, rfl, plK_at nd hn, U, fun a b z => ?_, q⟩
    rw [put_ne (fun y => by rw [y, hdd] at z; cases z)]
    exact z
theorem cal__law_joined_shift (B : Bi mg) (T : At K mg s__law_joined_shift "_law_joined_shift")    : Cal Pg w K mg base s__law_joined_shift "_law_joined_shift" 1 ["one", "other"] p_law_joined := by
  refine calW T sc__law_joined_shift (fun _ _ _ _ _ _ us hl => match us, hl with | [_, _], _ => rfl) (by rintro ws U P ⟨l, k, rfl, _⟩; rfl) (fun f cdv A outer s H E hr gd => ?_)
  have hu : (A.deeper (envOfC "_law_joined_shift" (defScope s__law_joined_shift) s.heap.objs.size f cdv)).units + 70 < cLine := by have := hr.un; omega
  refine ⟨_, (pss_cons (ps_set (i := 2) sc__law_joined_shift.nd rfl (.inl rfl) (pe_lst pa_nil))
      (pss_cons (ps_for PassesOwn.never rfl (piEnT K (by rfl) B.enumerate (pa_cons (pv 1) pa_nil)) (pgT K (n := 2) rfl (pgs_cons (pg_name (i := 3) sc__law_joined_shift.nd rfl (.inl rfl)) (pgs_cons (pgT K (n := 2) rfl (pgs_cons (pg_name (i := 4) sc__law_joined_shift.nd rfl (.inl rfl)) (pgs_cons (pg_name (i := 5) sc__law_joined_shift.nd rfl (.inl rfl)) pgs_nil))) pgs_nil)))
        (pss_one (ps_expr (pe_bm PySem.F.plainAttrs_list PySem.F.slot_list_append PySem.F.type_list_append mt_append (pv 2) (pa_cons (pe_ifExp (pt_cmpR op_eq (pv 4) pe_str (nomark _)) (pe_tup (pa_cons (pe_ix (ixT K) (pe_ix (ixT K) (pv 0) (pv 3) (fun _ _ => rfl)) pe_int (fun _ _ => rfl)) (pa_cons (pe_op op_add (pe_ix (ixT K) (pe_ix (ixT K) (pv 0) (pv 3) (fun _ _ => rfl)) pe_int (fun _ _ => rfl)) (pv 5)) pa_nil))) (pe_tup (pa_cons (pv 4) (pa_cons (pv 5) pa_nil)))) pa_nil)))))
      (pss_one (ps_ret (pe_callTy (bTup K) (by rfl) B.tuple (by decide +kernel) (pa_cons (pv 2) pa_nil)))))), fun ws U P h => ?_⟩
  try dsimp only [cxOf, Cx.nox]
  obtain ⟨a, b, rfl, hz, hl, q⟩ := h
  walk_at "tv"
  refine ev_lstM ?_
  walk_at "tv"
  refine ⟨Nat.zero_le _, fun f0 hf0 => ?_⟩
  walk_at "tv"
  refine sw_for (iw_enumT ?_)
  walk_at "tv"
  refine ⟨b.map wd, rfl, fun i r V => ∃ x3 x4 x5, r = [some (.d (sh a)), some (.d (sh b)), some (.r f0), x3, x4, x5] ∧ V f0 = some (.l ((((jn a b).take i).map wd).map W.d)) ∧ ∀ c, c ≠ f0 → V c = U c, ⟨none, none, none, rfl, put_same, fun c h => put_ne h⟩, ?_, ?_⟩
  · rintro i r V hi ⟨x3, x4, x5, rfl, hV, hE⟩
    have hib : i < b.length := by simpa using hi
    obtain ⟨w, hw⟩ := some_of hib
    show GW K _ (.d (.tuple [.int (i : Nat), (b.map wd).getD i .none])) _ _ _
    rw [getD_at hw]
    refine gw_pair ?_
    walk_at "tv"
    refine gw_pair ?_
    walk_at "tv"
    refine ev_bm ?_
    walk_at "tv"
    refine ⟨ty_M hV, ?_⟩
    walk_at "tv"
    rw [sign_eqp]
    have fin : ∀ z : Bool × Int, z = (if w.1 then ((a.getD i (false, 0)).1, (a.getD i (false, 0)).2 + w.2) else w) → ∃ x3 x4 x5, [some (W.d (sh a)), some (.d (sh b)), some (.r f0), some (.i (i : Int)), some (.s (sign w.1)), some (.i w.2)] = [some (.d (sh a)), some (.d (sh b)), some (.r f0), x3, x4, x5] ∧
        put V f0 (.l ((((jn a b).take i).map wd).map W.d ++ [W.d (wd z)])) f0 = some (.l ((((jn a b).take (i + 1)).map wd).map W.d)) ∧ ∀ c, c ≠ f0 → put V f0 (.l ((((jn a b).take i).map wd).map W.d ++ [W.d (wd z)])) c = U c := fun z hz => by
      refine ⟨_, _, _, rfl, ?_, fun c h => by rw [put_ne h, hE c h]⟩
      rw [put_same, List.take_add_one, jn_get hw, ← hz, List.map_append, List.map_append]
      rfl
    refine ⟨w.1, rfl, fun hw1 => ?_, fun hw0 => ?_⟩
    · have hia := leads_lt hl hw hw1
      have hat : atI (a.map wd) (i : Int) = some (wd (a.getD i (false, 0))) := atI_at (by simp [List.getD_eq_getElem?_getD, hia])
      walk_at "tv"
      refine r2_ixT (x := wd (a.getD i (false, 0))) hat ?_
      walk_at "tv"
      refine r2_ixT (x := .str (sign (a.getD i (false, 0)).1)) rfl ?_
      walk_at "tv"
      refine r2_ixT (x := wd (a.getD i (false, 0))) hat ?_
      walk_at "tv"
      refine r2_ixT (x := .int (a.getD i (false, 0)).2) rfl ?_
      walk_at "tv"
      refine ⟨[.str (sign (a.getD i (false, 0)).1), .int ((a.getD i (false, 0)).2 + w.2)], rfl, by show 2 ≤ sizeLine; decide, ?_⟩
      walk_at "tv"
      refine rm_append hV (by simp [jn_len]; exact small1000 (by omega)) ?_
      exact fin ((a.getD i (false, 0)).1, (a.getD i (false, 0)).2 + w.2) (by rw [if_pos hw1])
    · walk_at "tv"
      refine ⟨[.str (sign w.1), .int w.2], rfl, by show 2 ≤ sizeLine; decide, ?_⟩
      walk_at "tv"
      refine rm_append hV (by simp [jn_len]; exact small1000 (by omega)) ?_
      exact fin w (by rw [hw0]; rfl)
  · rintro r V ⟨x3, x4, x5, rfl, hV, hE⟩
    have hV' : V f0 = some (.l (((jn a b).map wd).map W.d)) := by
      rw [hV, List.take_of_length_le (by rw [jn_len, List.length_map]; exact Nat.le_refl _)]
    refine sw_freeze (i := 2) (xs := (jn a b).map wd) rfl hV' ?_
    walk_at "tv"
    rw [show cut V f0 = U by
      funext c
      by_cases z : c = f0
      · rw [z, cut_same, hf0]
      · rw [cut_ne z, hE c z]]
    exact q
theorem cal__law_is_below (B : Bi mg) (T : At K mg s__law_is_below "_law_is_below")    : Cal Pg w K mg base s__law_is_below "_law_is_below" 1 ["one", "other"] p_law_is_below := by
  refine calW T sc__law_is_below (fun _ _ _ _ _ _ us hl => match us, hl with | [_, _], _ => rfl) (by rintro ws U P ⟨l, k, rfl, _⟩; rfl) (fun f cdv A outer s H E hr gd => ?_)
  have hu : (A.deeper (envOfC "_law_is_below" (defScope s__law_is_below) s.heap.objs.size f cdv)).units + 70 < cLine := by have := hr.un; omega
  refine ⟨_, (pss_cons (ps_setLc (i := 2) (own := [("mine", 4), ("its", 5)]) rfl sc__law_is_below.nd rfl rfl (sw_true rfl rfl rfl (by decide +kernel)) (piZ K (by rfl) B.zip (pa_cons (pv 0) (pa_cons (pv 1) pa_nil))) (blkOk_by (N := N__law_is_below) (sc := defScope s__law_is_below) (by decide +kernel)) (fun _ _ _ _ _ => (pgT K (n := 2) rfl (pgs_cons (pg_name (i := 4) sc__law_is_below.nd rfl (.inl rfl)) (pgs_cons (pg_name (i := 5) sc__law_is_below.nd rfl (.inl rfl)) pgs_nil)))) (fun _ _ _ _ _ => pts_nil) (fun _ _ _ _ _ => (pe_tup (pa_cons (pv 4) (pa_cons (pv 5) pa_nil)))))
      (pss_cons (ps_setLc (i := 3) (own := [("mine", 4), ("its", 5)]) rfl sc__law_is_below.nd rfl rfl (sw_true rfl rfl rfl (by decide +kernel)) (piL K (pv 2)) (blkOk_by (N := N__law_is_below) (sc := defScope s__law_is_below) (by decide +kernel)) (fun _ _ _ _ _ => (pgT K (n := 2) rfl (pgs_cons (pg_name (i := 4) sc__law_is_below.nd rfl (.inl rfl)) (pgs_cons (pg_name (i := 5) sc__law_is_below.nd rfl (.inl rfl)) pgs_nil)))) (fun _ _ _ _ _ => pts_nil) (fun _ _ _ _ _ => (pe_and (pe_cmpR op_le (pe_ix (ixT K) (pv 4) pe_int (fun _ _ => rfl)) (pe_ix (ixT K) (pv 5) pe_int (fun _ _ => rfl)) (nomark _)) (pe_one (pe_or (pe_cmpR op_eq (pe_ix (ixT K) (pv 4) pe_int (fun _ _ => rfl)) (pe_ix (ixT K) (pv 5) pe_int (fun _ _ => rfl)) (nomark _)) (pe_one (pe_cmpR op_eq (pe_ix (ixT K) (pv 4) pe_int (fun _ _ => rfl)) pe_str (nomark _))))))))
      (pss_one (ps_ret (pe_and (pe_cmpR op_eq (pe_callB (bLen K) (by rfl) B.len (by decide +kernel) (pa_cons (pv 0) pa_nil)) (pe_callB (bLen K) (by rfl) B.len (by decide +kernel) (pa_cons (pv 1) pa_nil)) (nomark _)) (pe_one (pe_callB (bAll K rfl) (by rfl) B.all (by decide +kernel) (pa_cons (pv 3) pa_nil)))))))), fun ws U P h => ?_⟩
  try dsimp only [cxOf, Cx.nox]
  obtain ⟨a, b, rfl, hz, q⟩ := h
  walk_at "tv"
  refine ev_lcZ (xs := a) (ys := b) (h := wd) (k := wd) (f := fun x y => .tuple [wd x, wd y]) (own_tup (owns_cons gname_mono (own_name (by simp)) (owns_cons gname_mono (own_name (by simp)) owns_nil))) ?_
  walk_at "tv"
  refine ⟨Or.inl rfl, small1000 (by omega), fun i x y hx hy => ?_, ?_⟩
  · unfold Turn1
    refine gw_pair ?_
    walk_at "tv"
    refine ⟨rfl, ?_⟩
    walk_at "tv"
    exact ⟨[wd x, wd y], rfl, by show 2 ≤ sizeLine; decide, rfl, rfl⟩
  rw [show List.zipWith (fun x y => PyData.tuple [wd x, wd y]) a b = (a.zip b).map fun p => PyData.tuple [wd p.1, wd p.2] by rw [List.zip, List.map_zipWith]]
  walk_at "tv"
  refine ev_lcL (xs := a.zip b) (h := fun p => .tuple [wd p.1, wd p.2]) (f := fun p => .bool (wb p.1 p.2)) (own_tup (owns_cons gname_mono (own_name (by simp)) (owns_cons gname_mono (own_name (by simp)) owns_nil))) ?_
  walk_at "tv"
  refine ⟨rfl, small1000 (by rw [List.length_zip]; omega), fun i p hp => ?_, ?_⟩
  · unfold Turn1
    refine gw_pair ?_
    walk_at "tv"
    refine ⟨rfl, ?_⟩
    walk_at "tv"
    refine r2_ixT (x := .int p.1.2) rfl ?_
    walk_at "tv"
    refine r2_ixT (x := .int p.2.2) rfl ?_
    walk_at "tv"
    refine ⟨_, rfl, fun h1 => ?_, fun h0 => ?_⟩
    · walk_at "tv"
      refine r2_ixT (x := .str (sign p.1.1)) rfl ?_
      walk_at "tv"
      refine r2_ixT (x := .str (sign p.2.1)) rfl ?_
      walk_at "tv"
      rw [sign_two]
      refine ⟨_, rfl, fun h2 => ?_, fun h2 => ?_⟩
      · walk_at "tv"
        refine r2_ixT (x := .str (sign p.1.1)) rfl ?_
        walk_at "tv"
        rw [sign_eq]
        exact ⟨by rw [wb_eq, h1, h2, Bool.true_and, Bool.false_or], rfl⟩
      · exact ⟨by rw [wb_eq, h1, h2, Bool.true_and, Bool.true_or], rfl⟩
    · exact ⟨by rw [wb_eq, h0, Bool.false_and], rfl⟩
  walk_at "tv"
  refine ⟨_, rfl, fun h1 => ?_, fun h0 => ?_⟩
  · walk_at "tv"
    refine rl_allM ?_
    have hl : a.length = b.length := by
      simp at h1
      omega
    rw [decide_eq_true hl, Bool.true_and] at q
    exact q
  · have hl : ¬ a.length = b.length := by
      simp at h0
      omega
    rw [decide_eq_false hl, Bool.false_and] at q
    exact q
theorem cal__law_tables (B : Bi mg) (T : At K mg s__law_tables "_law_tables") (c__law_depth : Cal Pg w K mg base s__law_depth "_law_depth" 1 ["own", "place"] (p_depth_own K)) (c__law_joined_shift : Cal Pg w K mg base s__law_joined_shift "_law_joined_shift" 1 ["one", "other"] p_law_joined) (c__law_is_below : Cal Pg w K mg base s__law_is_below "_law_is_below" 1 ["one", "other"] p_law_is_below)   : Cal Pg w K mg base s__law_tables "_law_tables" 2 ["own", "place", "most"] (p_tables K) := by
  refine calW T sc__law_tables (fun _ _ _ _ _ _ us hl => match us, hl with | [_, _, _], _ => rfl) (by rintro ws U P ⟨x, ps, ls, n, d, rfl, _⟩; rfl) (fun f cdv A outer s H E hr gd => ?_)
  have hu : (A.deeper (envOfC "_law_tables" (defScope s__law_tables) s.heap.objs.size f cdv)).units + 70 < cLine := by have := hr.un; omega
  refine ⟨_, (pss_cons (ps_set (i := 3) sc__law_tables.nd rfl (.inl rfl) (pe_callTy (bTup K) (by rfl) B.tuple (by decide +kernel) (pa_cons (pe_op op_rep (pe_lst (pa_cons (pe_tup (pa_cons pe_str (pa_cons pe_int pa_nil))) pa_nil)) (pe_callC c__law_depth hr gd (by rfl) (pa_cons (pv 0) (pa_cons (pv 1) pa_nil)))) pa_nil)))
      (pss_cons (ps_asg (pe_tup (pa_cons (pe_callTy (bDictL K rfl) (by rfl) B.dict (by decide +kernel) (pa_cons (pe_lc (own := [("name", 11), ("depth", 12)]) rfl sc__law_tables.nd (piL K (peDGet hu (pv 0) pe_str (fun _ _ => rfl))) (blkOk_by (N := N__law_tables) (sc := defScope s__law_tables) (by decide +kernel)) (fun _ _ _ _ _ => (pgT K (n := 2) rfl (pgs_cons (pg_name (i := 11) sc__law_tables.nd rfl (.inl rfl)) (pgs_cons (pg_name (i := 12) sc__law_tables.nd rfl (.inl rfl)) pgs_nil)))) (fun _ _ _ _ _ => pts_nil) (fun _ _ _ _ _ => (pe_tup (pa_cons (pv 11) (pa_cons (pe_lst pa_nil) pa_nil))))) pa_nil)) (pa_cons (pe_lst (pa_cons (pe_tup (pa_cons (pv 1) (pa_cons (pv 3) pa_nil))) pa_nil)) pa_nil))) (pgT K (n := 2) rfl (pgs_cons (pg_name (i := 4) sc__law_tables.nd rfl (.inr rfl)) (pgs_cons (pg_name (i := 5) sc__law_tables.nd rfl (.inl rfl)) pgs_nil))))
      (pss_cons (ps_while PassesOwn.never (pt_cmpR (opNeD K hu) (pv 5) (pe_lst pa_nil) (nomark _))
        (pss_cons (ps_asg (pe_bm0 PySem.F.plainAttrs_list PySem.F.slot_list_pop PySem.F.type_list_pop mt_pop (pv 5)) (pgT K (n := 2) rfl (pgs_cons (pg_name (i := 6) sc__law_tables.nd rfl (.inl rfl)) (pgs_cons (pg_name (i := 7) sc__law_tables.nd rfl (.inr rfl)) pgs_nil))))
      (pss_one (ps_if (pt_not (pt_val (pe_callB (bAny K rfl) (by rfl) B.any (by decide +kernel) (pa_cons (pe_lc (own := [("known", 13)]) rfl sc__law_tables.nd (piL K (peDGet hu (pv 4) (pv 6) (fun _ _ => rfl))) (blkOk_by (N := N__law_tables) (sc := defScope s__law_tables) (by decide +kernel)) (fun _ _ _ _ _ => (pg_name (i := 13) sc__law_tables.nd rfl (.inl rfl))) (fun _ _ _ _ _ => pts_nil) (fun _ _ _ _ _ => (pe_callC c__law_is_below hr gd (by rfl) (pa_cons (pv 13) (pa_cons (pv 7) pa_nil))))) pa_nil))))
        (pss_cons (psDPut hu (pv 4) (pv 6) (pe_op (opCatL K) (pe_lc (own := [("known", 13)]) rfl sc__law_tables.nd (piL K (peDGet hu (pv 4) (pv 6) (fun _ _ => rfl))) (blkOk_by (N := N__law_tables) (sc := defScope s__law_tables) (by decide +kernel)) (fun _ _ _ _ _ => (pg_name (i := 13) sc__law_tables.nd rfl (.inl rfl))) (fun _ _ _ _ _ => (pts_one (pt_not (pt_val (pe_callC c__law_is_below hr gd (by rfl) (pa_cons (pv 7) (pa_cons (pv 13) pa_nil))))))) (fun _ _ _ _ _ => (pv 13))) (pe_lst (pa_cons (pv 7) pa_nil))) rfl)
      (pss_cons (ps_if (pt_cmpR op_gt (pe_callB (bLen K) (by rfl) B.len (by decide +kernel) (pa_cons (peDGet hu (pv 4) (pv 6) (fun _ _ => rfl)) pa_nil)) (pv 2) (nomark _))
        (pss_one (ps_ret pe_non))
        pss_nil)
      (pss_one (ps_for PassesOwn.never rfl (piL K (peDGet hu (pv 0) pe_str (fun _ _ => rfl))) (pgT K (n := 3) rfl (pgs_cons (pg_name (i := 8) sc__law_tables.nd rfl (.inl rfl)) (pgs_cons (pg_name (i := 9) sc__law_tables.nd rfl (.inl rfl)) (pgs_cons (pg_name (i := 10) sc__law_tables.nd rfl (.inl rfl)) pgs_nil))))
        (pss_one (ps_if (pt_cmpR op_eq (pv 8) (pv 6) (nomark _))
        (pss_one (ps_expr (pe_bm PySem.F.plainAttrs_list PySem.F.slot_list_append PySem.F.type_list_append mt_append (pv 5) (pa_cons (pe_tup (pa_cons (pv 9) (pa_cons (pe_callC c__law_joined_shift hr gd (by rfl) (pa_cons (pv 7) (pa_cons (pv 10) pa_nil))) pa_nil))) pa_nil))))
        pss_nil))))))
        pss_nil))))
      (pss_one (ps_ret (pe_callTy (bDictL K rfl) (by rfl) B.dict (by decide +kernel) (pa_cons (pe_lock (pe_lc (own := [("name", 11)]) rfl sc__law_tables.nd (pi_keys (pv 4)) (blkOk_by (N := N__law_tables) (sc := defScope s__law_tables) (by decide +kernel)) (fun _ _ _ _ _ => (pg_name (i := 11) sc__law_tables.nd rfl (.inl rfl))) (fun _ _ _ _ _ => pts_nil) (fun _ _ _ _ _ => (pe_tup (pa_cons (pv 11) (pa_cons (pe_callB (bSortND hu) (by rfl) B.sorted (by decide +kernel) (pa_cons (peDGet hu (pv 4) (pv 11) (fun _ _ => rfl)) pa_nil)) pa_nil)))))) pa_nil))))))), fun ws U P h => ?_⟩
  try dsimp only [cxOf, Cx.nox]
  obtain ⟨x, ps, ls, n, dn, rfl, hd, ok, sn, hp6, hl13, hn, q0, q1⟩ := h
  have hz := ok.few
  have nd := ok.nd
  have hf := ok.lf
  obtain ⟨_, hd1, hd3⟩ := ok.nms _ hn
  have lok := own_ls ok
  have dn0 : dn = depOf ps n := (depOf_eq nd hn).symm
  have n_in : n ∈ ps.map (·.1) := List.mem_map_of_mem (f := (·.1)) hn
  refine sw_seq (sw_asg (ev_cb (ev_cons (ev_op (ev_lstM ?_)))))
  walk_at "tv"
  refine ⟨[.str "+", .int 0], rfl, by decide, ?_⟩
  walk_at "tv"
  refine ⟨by decide, fun a0 ha0 => ?_⟩
  refine ev_call (ev_cons (ev_var rfl (ev_cons (ev_var rfl (ev_nil ⟨x, ps, ls, n, dn, rfl, dk_of hd (fun c b z => by rw [put_ne (fun y => by rw [y, ha0] at z; cases z)]; exact z), hz, nd, hn, ?_⟩)))))
  refine r2_repM (xs := [.tuple [.str "+", .int 0]]) put_same (by omega) (by omega) (by decide) ?_
  rw [show (List.replicate ((dn : Nat) : Int).toNat [PyData.tuple [PyData.str (Str.ofString "+"), PyData.int 0]]).flatten = (List.replicate dn (true, 0)).map fun w : Bool × Nat => PyData.tuple [.str (sign w.1), .int (w.2 : Int)] from rep_plus dn]
  refine ev_nil (rl_tupL (gw_name ?_))
  have up0 : ∀ V : UU, (∀ c b, c ≠ a0 → U c = some b → V c = some b) → ∀ c b, U c = some b → V c = some b := fun V h c b z => h c b (fun y => by rw [y, ha0] at z; cases z) z
  have hdU : ∀ V : UU, (∀ c b, U c = some b → V c = some b) → DkIs K V x (ownK ps ls) := fun V h => dk_of hd h
  refine sw_seq (sw_asg (ev_tupW (ev_cons (ev_cb (ev_cons ?_)))))
  refine ev_lcL (xs := ps) (h := fun p => .tuple [.str p.1, .int (p.2 : Int)]) (f := fun p => .tuple [.str p.1, .list []]) (own_tup (owns_cons gname_mono (own_name (by simp)) (owns_cons gname_mono (own_name (by simp)) owns_nil))) ?_
  refine ev_dget (ev_var rfl (ev_str ⟨ownK ps ls, .inr "places", _, hdU _ (up0 _ fun c b h1 h2 => by rw [put_ne h1]; exact h2), rfl, ownK_places, rfl, by rw [sizeLine_eq]; omega, fun i p hp => ?_, ?_⟩))
  · unfold Turn1
    refine gw_pair ?_
    walk_at "tv"
    refine ⟨rfl, ?_⟩
    walk_at "tv"
    refine ev_lst (ev_nil ⟨[], rfl, (show 0 ≤ sizeLine by decide), ?_⟩)
    walk_at "tv"
    exact ⟨[.str p.1, .list []], rfl, (show 2 ≤ sizeLine by decide), rfl, rfl⟩
  walk_at "tv"
  rw [show (ps.map fun p => PyData.tuple [.str p.1, .list []]) = (ps.map fun p => ((Sum.inr p.1 : Key), PyData.list [])).map Tv.pairD by rw [List.map_map]; rfl]
  refine rl_dictL (by rw [List.map_map]; exact nd_inr nd) (fun f hf0 => ?_)
  refine ev_cons (ev_lstM (ev_cons (ev_tup (ev_cons (ev_var rfl (ev_cons (ev_var rfl (ev_nil ⟨[.str n, shN (List.replicate dn (true, 0))], rfl, (show 2 ≤ sizeLine by decide), ev_nil ⟨(show 1 ≤ sizeLine by decide), fun l hln => ev_nil ⟨(show 2 ≤ sizeLine by decide), ?_⟩⟩⟩))))))))
  refine gw_tupW rfl ?_
  walk_at "tv"
  have fa : f ≠ a0 := fun z => by rw [z, put_same] at hf0; cases hf0
  have ufn : U f = none := by rwa [put_ne fa] at hf0
  have nlf : l ≠ f := fun z => by rw [z, put_same] at hln; cases hln
  have la : l ≠ a0 := fun z => by rw [z, put_ne fa.symm, put_same] at hln; cases hln
  have uln : U l = none := by rwa [put_ne nlf, put_ne la] at hln
  have hs1 : n ∈ ps.map (·.1) ∧ (List.replicate dn (true, 0)).length = depOf ps n := ⟨n_in, by simp [dn0]⟩
  have hs0 : ∀ y ∈ List.replicate dn (true, 0), (y : Bool × Nat).2 = 0 := fun y hy => by rw [List.eq_of_mem_replicate hy]
  have pl6 : (ps.map (·.1)).length ≤ 6 := by rw [List.length_map]; exact hp6
  have nmOk : ∀ p ∈ ps.map (·.1), NameOk p := fun p hp => by
    obtain ⟨y, hy, rfl⟩ := List.mem_map.mp hp
    exact (ok.nms y hy).1
  refine sw_while (fun m ρ V => ∃ acc kn st x6 x7 x8 x9 x10, ρ = [some x, some (.s n), some (.i 12), some (.d (shN (List.replicate dn (true, 0)))), some (.r f), some (.r l), x6, x7, x8, x9, x10, none, none, none] ∧ V f = some (.k (fdK ps kn)) ∧ V l = some (.l ((st.map fun w => nodeS (TB.nd ls (n, List.replicate dn (true, 0)) w)).map W.d)) ∧ (∀ c b, U c = some b → V c = some b) ∧ (∀ p, (kn p).length ≤ 12) ∧ TB.Tb ls (ps.map (·.1)) (n, List.replicate dn (true, 0)) acc kn st ∧ m = TB.mOf ls (ps.map (·.1)) acc st)
    (TB.mOf ls (ps.map (·.1)) ([] : List (Str × List (Bool × Nat))) [[]]) ?_ ?_
  refine ⟨[], fun _ => [], [[]], none, none, none, none, none, ?_, ?_, ?_, fun c b h => ?_, fun p => ?_, TB.Tb.start _ _ _, ?_⟩
  · rfl
  · rw [put_ne nlf.symm, put_same, fdK, dts, List.map_map]
    rfl
  · rw [put_same]
    rfl
  · rw [put_ne (fun y => by rw [y, uln] at h; cases h), put_ne (fun y => by rw [y, ufn] at h; cases h), put_ne (fun y => by rw [y, ha0] at h; cases h)]
    exact h
  · exact Nat.zero_le _
  · rfl
  rintro m ρ V ⟨acc, kn, st, x6, x7, x8, x9, x10, rfl, hVf, hVl, hE, k12, tb, rfl⟩
  have ndok := fun w (hw : w ∈ st) => (tb.pth w hw).nd_ok lok hs1 w.length (Nat.le_refl _)
  walk_at "tv"
  refine ev_lst (ev_nil ⟨[], rfl, (show 0 ≤ sizeLine by decide), ?_⟩)
  refine r2_neM (xs := st.map fun w => nodeS (TB.nd ls (n, List.replicate dn (true, 0)) w)) hVl (by
    rw [show (st.map fun w => nodeS (TB.nd ls (n, List.replicate dn (true, 0)) w)) = (st.map (TB.nd ls (n, List.replicate dn (true, 0)))).map nodeS by rw [List.map_map]; rfl]
    refine nodeS_shaped fun a ha => ?_
    obtain ⟨w, hw, rfl⟩ := List.mem_map.mp ha
    have := (ndok w hw).1
    rw [List.take_length] at this
    exact nmOk _ this) (by decide +kernel) ?_
  rw [list_nil]
  refine ⟨_, rfl, fun ht => ?_, fun hf2 => ?_⟩
  · have ne : st ≠ [] := fun z => by rw [z] at ht; cases ht
    obtain ⟨st', w, rfl⟩ : ∃ st' w, st = st' ++ [w] := ⟨st.dropLast, st.getLast ne, (List.dropLast_concat_getLast ne).symm⟩
    have he := ndok w (by simp)
    rw [List.take_length] at he
    have tlen := tb.len lok hs1 sn
    generalize hnode : TB.nd ls (n, List.replicate dn (true, 0)) w = e at he
    obtain ⟨he1, he2⟩ := he
    refine sw_seq (sw_asg (ev_bm0 ?_))
    walk_at "tv"
    refine ⟨ty_M hVl, ?_⟩
    refine rm_pop (ws := (st'.map fun w => nodeS (TB.nd ls (n, List.replicate dn (true, 0)) w)).map W.d) (w := .d (nodeS e)) (by rw [hVl, ← hnode]; simp) ?_
    show GW K _ (.d (.tuple [.str e.1, shN e.2])) _ _ _
    refine gw_pair ?_
    walk_at "tv"
    generalize hV1 : put V l (.l ((st'.map fun w => nodeS (TB.nd ls (n, List.replicate dn (true, 0)) w)).map W.d)) = V1
    have h1f : V1 f = some (.k (fdK ps kn)) := by rw [← hV1, put_ne nlf.symm]; exact hVf
    have h1l : V1 l = some (.l ((st'.map fun w => nodeS (TB.nd ls (n, List.replicate dn (true, 0)) w)).map W.d)) := by rw [← hV1, put_same]
    have h1E : ∀ c b, U c = some b → V1 c = some b := fun c b h => by rw [← hV1, put_ne (fun y => by rw [y, uln] at h; cases h)]; exact hE c b h
    have klen : ∀ k ∈ kn e.1, k.length = e.2.length := fun k hk => by
      obtain ⟨v, hp, ea, _⟩ := tb.rch _ (tb.knr _ k hk)
      have := (hp.nd_ok lok hs1 v.length (Nat.le_refl _)).2
      rw [List.take_length, ← ea] at this
      rw [he2]
      exact this
    have e3 : e.2.length ≤ 3 := by rw [he2]; exact lok.dp _ he1
    refine ev_lcL (xs := kn e.1) (h := shN) (f := fun k => .bool (TB.blB k e.2)) (own_name (by simp)) ?_
    refine ev_dget (ev_var rfl (ev_var rfl ⟨_, .inr e.1, _, .inl ⟨f, rfl, h1f⟩, rfl, fdK_get he1, rfl, by have := k12 e.1; rw [sizeLine_eq]; omega, fun i k hk => ?_, ?_⟩))
    · unfold Turn1
      walk_at "tv"
      refine ⟨rfl, ?_⟩
      walk_at "tv"
      refine ⟨shI k, shI e.2, by rw [← shN_sh, ← shN_sh], by rw [shI, List.length_map, klen k (List.mem_of_getElem? hk)]; omega, ?_⟩
      exact ⟨by rw [below_shI], rfl⟩
    walk_at "tv"
    refine rl_anyM ?_
    refine ⟨_, rfl, fun hno => ?_, fun hyes => ?_⟩
    · have no : ∀ k ∈ kn e.1, TB.blB k e.2 = false := fun k hk => by
        rw [Bool.not_eq_true', List.any_eq_false] at hno
        exact Bool.not_eq_true _ ▸ hno k hk
      have tb2 := tb.keep lok hs1 sn (by rw [hnode]; exact no)
      rw [hnode] at tb2
      refine sw_seq (sw_dput (ev_op ?_))
      refine ev_lcFil (xs := kn e.1) (h := shN) (e := shN) (f := fun k => !TB.blB e.2 k) (own_name (by simp)) ?_
      refine ev_dget (ev_var rfl (ev_var rfl ⟨_, .inr e.1, _, .inl ⟨f, rfl, h1f⟩, rfl, fdK_get he1, rfl, by have := k12 e.1; rw [sizeLine_eq]; omega, fun i k hk => ?_, ?_⟩))
      · walk_at "tv"
        refine ⟨shI e.2, shI k, by rw [← shN_sh, ← shN_sh], by rw [shI, List.length_map]; omega, ?_⟩
        refine ⟨_, rfl, by rw [below_shI], rfl, fun _ => ?_⟩
        walk_at "tv"
        exact ⟨rfl, rfl⟩
      refine ev_lst (ev_cons (ev_var rfl (ev_nil ⟨[shN e.2], rfl, (show 1 ≤ sizeLine by decide), ?_⟩)))
      have fl : ((kn e.1).filter fun k => !TB.blB e.2 k).length ≤ 12 := Nat.le_trans (List.length_filter_le _ _) (k12 e.1)
      refine r2_catL (by rw [List.length_map, List.length_singleton]; exact Nat.le_trans (Nat.add_le_add_right fl 1) (by rw [sizeLine_eq]; decide)) ?_
      rw [show (((kn e.1).filter fun k => !TB.blB e.2 k).map shN ++ [shN e.2]) = (TB.put1 kn e.1 e.2 e.1).map shN by rw [TB.put1, if_pos rfl, List.map_append]; rfl]
      refine ev_var rfl (ev_var rfl ⟨f, _, .inr e.1, rfl, rfl, h1f, by rw [fdK, List.length_map, sizeLine_eq]; omega, ?_⟩)
      rw [fdK_store (kn := kn) (kn' := TB.put1 kn e.1 e.2) he1 fun q hq => if_neg hq]
      generalize hV2 : put V1 f (.k (fdK ps (TB.put1 kn e.1 e.2))) = V2
      have h2f : V2 f = some (.k (fdK ps (TB.put1 kn e.1 e.2))) := by rw [← hV2, put_same]
      have h2l : V2 l = some (.l ((st'.map fun w => nodeS (TB.nd ls (n, List.replicate dn (true, 0)) w)).map W.d)) := by rw [← hV2, put_ne nlf]; exact h1l
      have h2E : ∀ c b, U c = some b → V2 c = some b := fun c b h => by rw [← hV2, put_ne (fun y => by rw [y, ufn] at h; cases h)]; exact h1E c b h
      refine sw_seq (sw_if (et_test (ev_op (ev_cb (ev_cons ?_)))))
      refine ev_dget (ev_var rfl (ev_var rfl ⟨_, .inr e.1, _, .inl ⟨f, rfl, h2f⟩, rfl, fdK_get he1, ?_⟩))
      walk_at "tv"
      refine ⟨_, rfl, fun h13 => ?_, fun h13 => ?_⟩
      · refine sw_ret (ev_less (ev_non ?_))
        exact ⟨U, h2E, q0⟩
      · have k12' : ∀ p, (TB.put1 kn e.1 e.2 p).length ≤ 12 := fun p => by
          by_cases z : p = e.1
          · have := of_decide_eq_false h13
            rw [List.length_map] at this
            rw [z]
            omega
          · rw [TB.put1, if_neg z]
            exact k12 p
        refine sw_next ?_
        refine sw_for (iw_list ?_)
        refine ev_dget (ev_var rfl (ev_str ⟨ownK ps ls, .inr "lines", _, hdU _ h2E, rfl, ownK_lines, ?_⟩))
        refine ⟨_, rfl, fun i ρ V3 => ∃ x8 x9 x10, ρ = [some x, some (.s n), some (.i 12), some (.d (shN (List.replicate dn (true, 0)))), some (.r f), some (.r l), some (.s e.1), some (.d (shN e.2)), x8, x9, x10, none, none, none] ∧ V3 f = some (.k (fdK ps (TB.put1 kn e.1 e.2))) ∧ V3 l = some (.l (((st' ++ TB.kidsTo ls e.1 w i).map fun w => nodeS (TB.nd ls (n, List.replicate dn (true, 0)) w)).map W.d)) ∧ (∀ c b, U c = some b → V3 c = some b),
          ⟨x8, x9, x10, rfl, h2f, by rw [TB.kidsTo_zero, List.append_nil]; exact h2l, h2E⟩, ?_, ?_⟩
        · rintro i ρ V3 hi ⟨x8, x9, x10, rfl, h3f, h3l, h3E⟩
          have hil : i < ls.length := by simpa using hi
          have hy : ls[i]? = some ls[i] := List.getElem?_eq_getElem hil
          generalize ls[i] = y at hy
          have ymem := List.mem_of_getElem? hy
          show GW K _ (.d ((ls.map lnD).getD i .none)) _ _ _
          rw [getD_at hy]
          refine gw_three ?_
          walk_at "tv"
          have st1 : TB.kidsTo ls e.1 w (i + 1) = TB.kidsTo ls e.1 w i ++ if decide (y.1 = e.1) = true then [w ++ [i]] else [] := by
            rw [TB.kidsTo_succ, show TB.isFrom ls e.1 i = decide (y.1 = e.1) by rw [TB.isFrom, hy]]
          refine ⟨_, rfl, fun b1 => ?_, fun b0 => ?_⟩
          · refine sw_drop (ev_bm ?_)
            walk_at "tv"
            refine ⟨ty_M h3l, ?_⟩
            walk_at "tv"
            refine ⟨shI e.2, shI y.2.2, by rw [← shN_sh, ← shN_sh], by rw [shI, List.length_map, lok.len y ymem]; have := lok.dp _ (lok.fin y ymem); omega, leads_shI fun j z hj hz2 => by rw [shI, List.length_map, he2, ← of_decide_eq_true b1]; exact (lok.few y ymem j z hj).2 hz2, ?_⟩
            rw [jn_shI, ← shN_sh]
            walk_at "tv"
            refine ⟨[.str y.2.1, shN (TB.jn e.2 y.2.2)], rfl, (show 2 ≤ sizeLine by decide), ?_⟩
            walk_at "tv"
            have kl := TB.kidsTo_len ls e.1 w i
            have tl := stack_le (P := (ps.map (·.1)).length) pl6 hl13 tlen
            refine rm_append h3l (by
              rw [List.length_map, List.length_map, List.length_append, sizeLine_eq]
              rw [List.length_append] at tl
              omega) ?_
            refine ⟨_, _, _, rfl, by rw [put_ne nlf.symm]; exact h3f, ?_, fun c b h => by rw [put_ne (fun y => by rw [y, uln] at h; cases h)]; exact h3E c b h⟩
            rw [put_same, st1, if_pos b1, ← List.append_assoc, List.map_append (l₁ := st' ++ TB.kidsTo ls e.1 w i), List.map_append (l₁ := List.map _ (st' ++ TB.kidsTo ls e.1 w i)), List.map_singleton, List.map_singleton, TB.nd_snoc, hnode]
            rw [show TB.step ls e i = (y.2.1, TB.jn e.2 y.2.2) by rw [TB.step, hy]]
          · refine sw_next ⟨_, _, _, rfl, h3f, ?_, h3E⟩
            rw [st1, b0]
            simpa using h3l
        · rintro ρ V3 ⟨x8, x9, x10, rfl, h3f, h3l, h3E⟩
          rw [List.length_map] at h3l
          exact ⟨_, TB.m_keep (TB.kidsTo_len ls e.1 w ls.length) (tb2.few lok hs1 hs0), _, _, _, _, _, _, _, _, rfl, h3f, h3l, h3E, k12', tb2, rfl⟩
    · exact sw_next ⟨_, TB.m_skip, acc, kn, st', _, _, _, _, _, rfl, h1f, h1l, h1E, k12, tb.skip, rfl⟩
  · have e0 : st = [] := by
      rw [Bool.not_eq_false', decide_eq_true_eq] at hf2
      exact hf2
    subst e0
    refine sw_ret (ev_less (ev_cb (ev_cons (ev_lockK hVf fun od pz => ?_))))
    refine ev_lcK (own_name (by simp)) (ev_var rfl ⟨f, od, pz, fdK ps kn, rfl, put_same, fun i acc V2 => V2 = put V f (.lk K od pz (fdK ps kn)) ∧ acc = (ps.take i).map fun p => PyData.tuple [.str p.1, .list (srtD ((kn p.1).map shN))], ⟨rfl, rfl⟩, fun i acc V2 h => by rw [h.1, put_same], ?_, ?_⟩)
    · rintro i acc2 V2 k wv hk hal ⟨rfl, rfl⟩
      rw [fdK, List.getElem?_map] at hk
      cases hp : ps[i]? with
      | none => rw [hp] at hk; cases hk
      | some p =>
        rw [hp, Option.map_some] at hk
        obtain ⟨rfl, rfl⟩ := Prod.mk.inj (Option.some.inj hk)
        have pin : p.1 ∈ ps.map (·.1) := List.mem_map_of_mem (f := (·.1)) (List.mem_of_getElem? hp)
        show GW K _ (.s p.1) _ _ _
        walk_at "tv"
        refine ⟨fun _ => ?_, fun z => nomatch z⟩
        walk_at "tv"
        refine ev_dgetL (ev_var rfl (ev_var rfl ⟨f, od, pz, fdK ps kn, .inr p.1, _, rfl, put_same, rfl, fdK_get pin, ?_⟩))
        walk_at "tv"
        refine rl_sortND (fun d1 h1 d2 h2 => ?_) (.inl fun d1 h1 => ?_) (fun d1 h1 => ?_) ?_
        · obtain ⟨a1, _, rfl⟩ := List.mem_map.mp h1
          obtain ⟨a2, _, rfl⟩ := List.mem_map.mp h2
          exact shN_alike a1 a2
        · obtain ⟨a1, m1, rfl⟩ := List.mem_map.mp h1
          obtain ⟨v, hv, ea, _⟩ := tb.rch _ (tb.knr _ a1 m1)
          have len := (hv.nd_ok lok hs1 v.length (Nat.le_refl _)).2
          rw [List.take_length, ← ea] at len
          obtain ⟨p', hp', e2⟩ := List.mem_map.mp pin
          have d1 := (ok.nms p' hp').2.1
          rw [show depOf ps p.1 = p'.2 by rw [← e2]; exact depOf_eq nd hp'] at len
          cases ha : a1 with
          | nil => rw [ha] at len; simp at len; omega
          | cons z zs => exact ⟨_, _, rfl⟩
        · obtain ⟨a1, _, rfl⟩ := List.mem_map.mp h1
          exact shN_depth a1
        walk_at "tv"
        refine ⟨[.str p.1, .list (srtD ((kn p.1).map shN))], rfl, (show 2 ≤ sizeLine by decide), ?_⟩
        refine ⟨_, rfl, ?_, rfl, ?_⟩
        · rw [List.length_map, sizeLine_eq]
          have := List.length_take_le' i ps
          omega
        · rw [List.take_add_one, hp, List.map_append]
          rfl
    · rintro acc2 V2 hal ⟨rfl, rfl⟩
      refine ⟨put_same, ?_⟩
      walk_at "tv"
      rw [List.take_of_length_le (by rw [fdK, List.length_map]; exact Nat.le_refl _), put_put, show (ps.map fun p => PyData.tuple [.str p.1, .list (srtD ((kn p.1).map shN))]) = (ps.map fun p => ((Sum.inr p.1 : Key), PyData.list (srtD ((kn p.1).map shN)))).map Tv.pairD by rw [List.map_map]; rfl]
      refine rl_dictL (by rw [List.map_map]; exact nd_inr nd) (fun a ha => ?_)
      have uan : U a = none := by
        cases z : U a with
        | none => rfl
        | some b =>
          have af : a ≠ f := fun y => by rw [y, ufn] at z; cases z
          rw [put_ne af, hE a b z] at ha
          cases ha
      refine ⟨put U a (.k (dts (ps.map fun p => ((Sum.inr p.1 : Key), PyData.list (srtD ((kn p.1).map shN)))))), fun c b h => ?_, q1 a _ uan⟩
      by_cases z : c = a
      · rw [z, put_same] at h
        rw [z, put_same, h]
      · rw [put_ne z] at h
        rw [put_ne z, put_ne (fun y => by rw [y, ufn] at h; cases h)]
        exact hE c b h
theorem cal__law_stood (B : Bi mg) (T : At K mg s__law_stood "_law_stood")    : Cal Pg w K mg base s__law_stood "_law_stood" 1 ["standing", "shift"] p_stood := by
  refine calW T sc__law_stood (fun _ _ _ _ _ _ us hl => match us, hl with | [_, _], _ => rfl) (by rintro ws U P ⟨l, k, rfl, _⟩; rfl) (fun f cdv A outer s H E hr gd => ?_)
  have hu : (A.deeper (envOfC "_law_stood" (defScope s__law_stood) s.heap.objs.size f cdv)).units + 70 < cLine := by have := hr.un; omega
  refine ⟨_, (pss_cons (ps_set (i := 2) sc__law_stood.nd rfl (.inl rfl) (pe_lst pa_nil))
      (pss_cons (ps_for PassesOwn.never rfl (piEnT K (by rfl) B.enumerate (pa_cons (pv 1) pa_nil)) (pgT K (n := 2) rfl (pgs_cons (pg_name (i := 3) sc__law_stood.nd rfl (.inl rfl)) (pgs_cons (pgT K (n := 2) rfl (pgs_cons (pg_name (i := 4) sc__law_stood.nd rfl (.inl rfl)) (pgs_cons (pg_name (i := 5) sc__law_stood.nd rfl (.inl rfl)) pgs_nil))) pgs_nil)))
        (pss_cons (ps_set (i := 6) sc__law_stood.nd rfl (.inl rfl) (pe_ifExp (pt_cmpR op_eq (pv 4) pe_str (nomark _)) (pe_ix (ixT K) (pv 0) (pv 3) (fun _ _ => rfl)) pe_int))
      (pss_one (ps_expr (pe_bm PySem.F.plainAttrs_list PySem.F.slot_list_append PySem.F.type_list_append mt_append (pv 2) (pa_cons (pe_ifExp (PW.pt (pw_and (pt_cmpR op_eq (pv 4) pe_str (nomark _)) (pw_and (pt_cmpR op_gt (pv 5) pe_int (nomark _)) (pw_and1 (pt_cmpR op_eq (pv 6) pe_int (nomark _)))))) pe_int (pv 6)) pa_nil))))))
      (pss_one (ps_ret (pe_callTy (bTup K) (by rfl) B.tuple (by decide +kernel) (pa_cons (pv 2) pa_nil)))))), fun ws U P h => ?_⟩
  try dsimp only [cxOf, Cx.nox]
  obtain ⟨ss, l, rfl, hz, hl, q⟩ := h
  walk_at "tv"
  refine ev_lstM ?_
  walk_at "tv"
  refine ⟨Nat.zero_le _, fun f0 hf0 => ?_⟩
  walk_at "tv"
  refine sw_for (iw_enumT ?_)
  walk_at "tv"
  refine ⟨l.map wdN, rfl, fun i r V => ∃ x3 x4 x5 x6, r = [some (.d (nts ss)), some (.d (shN l)), some (.r f0), x3, x4, x5, x6] ∧ V f0 = some (.l ((((stood ss l).take i).map fun n : Nat => PyData.int (n : Int)).map W.d)) ∧ ∀ c, c ≠ f0 → V c = U c, ⟨none, none, none, none, rfl, put_same, fun c h => put_ne h⟩, ?_, ?_⟩
  · rintro i r V hi ⟨x3, x4, x5, x6, rfl, hV, hE⟩
    have hib : i < l.length := by simpa using hi
    obtain ⟨w, hw⟩ : ∃ w, l[i]? = some w := ⟨l[i], by simp [hib]⟩
    show GW K _ (.d (.tuple [.int (i : Nat), (l.map wdN).getD i .none])) _ _ _
    rw [getD_at hw]
    refine gw_pair ?_
    walk_at "tv"
    refine gw_pair ?_
    walk_at "tv"
    rw [sign_eqp]
    have fin : ∀ (z : Nat) (m : Option W), z = sd (ss.getD i 0) w → ∃ x3 x4 x5 x6, [some (W.d (nts ss)), some (.d (shN l)), some (.r f0), some (.i (i : Int)), some (.s (sign w.1)), some (.i (w.2 : Int)), m] = [some (.d (nts ss)), some (.d (shN l)), some (.r f0), x3, x4, x5, x6] ∧
        put V f0 (.l (((((stood ss l).take i).map fun n : Nat => PyData.int (n : Int)).map W.d) ++ [.i (z : Int)])) f0 = some (.l ((((stood ss l).take (i + 1)).map fun n : Nat => PyData.int (n : Int)).map W.d)) ∧ ∀ c, c ≠ f0 → put V f0 (.l (((((stood ss l).take i).map fun n : Nat => PyData.int (n : Int)).map W.d) ++ [.i (z : Int)])) c = U c := fun z m hz => by
      refine ⟨_, _, _, _, rfl, ?_, fun c h => by rw [put_ne h, hE c h]⟩
      rw [put_same, List.take_add_one, stood_get hw, ← hz, List.map_append, List.map_append]
      rfl
    refine ⟨w.1, rfl, fun h1 => ?_, fun h0 => ?_⟩
    · have hia := hl i w hw h1
      have hat : atI (ss.map fun n : Nat => PyData.int (n : Int)) (i : Int) = some (.int ((ss.getD i 0 : Nat) : Int)) := atI_at (by simp [List.getD_eq_getElem?_getD, hia])
      walk_at "tv"
      refine r2_ixT (x := .int ((ss.getD i 0 : Nat) : Int)) hat ?_
      refine gw_name ?_
      walk_at "tv"
      refine ev_bm ?_
      walk_at "tv"
      refine ⟨ty_M hV, ?_⟩
      walk_at "tv"
      rw [sign_eqp]
      refine ⟨w.1, rfl, fun _ => ?_, fun z => by rw [h1] at z; cases z⟩
      walk_at "tv"
      refine ⟨_, rfl, fun g1 => ?_, fun g1 => ?_⟩
      · walk_at "tv"
        refine ⟨_, rfl, fun g2 => ?_, fun g2 => ?_⟩
        · walk_at "tv"
          refine rm_append hV (by rw [List.length_map, List.length_map, List.length_take, sizeLine_eq]; omega) ?_
          refine fin 1 _ ?_
          have a1 := of_decide_eq_true g1
          have a2 := of_decide_eq_true g2
          rw [sd, if_pos h1, if_pos ⟨by omega, by omega⟩]
        · walk_at "tv"
          refine rm_append hV (by rw [List.length_map, List.length_map, List.length_take, sizeLine_eq]; omega) ?_
          refine fin (ss.getD i 0) _ ?_
          have a2 := of_decide_eq_false g2
          rw [sd, if_pos h1, if_neg fun z => a2 (by omega)]
      · refine ⟨(fun z => nomatch z), fun _ => ?_⟩
        walk_at "tv"
        refine rm_append hV (by rw [List.length_map, List.length_map, List.length_take, sizeLine_eq]; omega) ?_
        refine fin (ss.getD i 0) _ ?_
        have a1 := of_decide_eq_false g1
        rw [sd, if_pos h1, if_neg fun z => a1 (by omega)]
    · walk_at "tv"
      refine ev_bm ?_
      walk_at "tv"
      refine ⟨ty_M hV, ?_⟩
      walk_at "tv"
      rw [sign_eqp]
      refine ⟨w.1, rfl, (fun z => by rw [h0] at z; cases z), fun _ => ?_⟩
      refine ⟨(fun z => nomatch z), fun _ => ?_⟩
      walk_at "tv"
      refine rm_append hV (by rw [List.length_map, List.length_map, List.length_take, sizeLine_eq]; omega) ?_
      refine fin 2 _ ?_
      rw [sd, if_neg (by rw [h0]; exact Bool.false_ne_true)]
  · rintro r V ⟨x3, x4, x5, x6, rfl, hV, hE⟩
    rw [List.length_map, List.take_of_length_le (by rw [stood_len]; exact Nat.le_refl _)] at hV
    refine sw_freeze (i := 2) (xs := (stood ss l).map fun n : Nat => PyData.int (n : Int)) rfl hV ?_
    walk_at "tv"
    rw [show cut V f0 = U by
      funext c
      by_cases z : c = f0
      · rw [z, cut_same, hf0]
      · rw [cut_ne z, hE c z]]
    exact q
theorem cal__law_standings (B : Bi mg) (T : At K mg s__law_standings "_law_standings") (c__law_depth : Cal Pg w K mg base s__law_depth "_law_depth" 1 ["own", "place"] (p_depth_own K)) (c__law_stood : Cal Pg w K mg base s__law_stood "_law_stood" 1 ["standing", "shift"] p_stood)   : Cal Pg w K mg base s__law_standings "_law_standings" 2 ["own", "place"] (p_standings K) := by
  refine calW T sc__law_standings (fun _ _ _ _ _ _ us hl => match us, hl with | [_, _], _ => rfl) (by rintro ws U P ⟨x, ps, ls, n, d, rfl, _⟩; rfl) (fun f cdv A outer s H E hr gd => ?_)
  have hu : (A.deeper (envOfC "_law_standings" (defScope s__law_standings) s.heap.objs.size f cdv)).units + 70 < cLine := by have := hr.un; omega
  refine ⟨_, (pss_cons (ps_set (i := 2) sc__law_standings.nd rfl (.inl rfl) (pe_op (opRep K) (pe_tup (pa_cons pe_int pa_nil)) (pe_callC c__law_depth hr gd (by rfl) (pa_cons (pv 0) (pa_cons (pv 1) pa_nil)))))
      (pss_cons (ps_par (i := 3) (j := 4) (by rfl) sc__law_standings.nd rfl rfl (by decide) rfl rfl (pa_cons pe_dnewK (pa_cons (pe_lst (pa_cons (pe_tup (pa_cons (pv 1) (pa_cons (pv 2) pa_nil))) pa_nil)) pa_nil)) (by rfl))
      (pss_cons (ps_while PassesOwn.never (pt_cmpR (opNeD K hu) (pv 4) (pe_lst pa_nil) (nomark _))
        (pss_cons (ps_asg (pe_bm0 PySem.F.plainAttrs_list PySem.F.slot_list_pop PySem.F.type_list_pop mt_pop (pv 4)) (pgT K (n := 2) rfl (pgs_cons (pg_name (i := 5) sc__law_standings.nd rfl (.inr rfl)) (pgs_cons (pg_name (i := 6) sc__law_standings.nd rfl (.inl rfl)) pgs_nil))))
      (pss_one (ps_for PassesOwn.never rfl (piL K (pe_lc (own := [("first", 10), ("end", 7), ("shift", 8)]) rfl sc__law_standings.nd (piL K (peDGet hu (pv 0) pe_str (fun _ _ => rfl))) (blkOk_by (N := N__law_standings) (sc := defScope s__law_standings) (by decide +kernel)) (fun _ _ _ _ _ => (pgT K (n := 3) rfl (pgs_cons (pg_name (i := 10) sc__law_standings.nd rfl (.inl rfl)) (pgs_cons (pg_name (i := 7) sc__law_standings.nd rfl (.inl rfl)) (pgs_cons (pg_name (i := 8) sc__law_standings.nd rfl (.inl rfl)) pgs_nil))))) (fun _ _ _ _ _ => (pts_one (pt_cmpR op_eq (pv 10) (pv 5) (nomark _)))) (fun _ _ _ _ _ => (pe_tup (pa_cons (pv 7) (pa_cons (pv 8) pa_nil)))))) (pgT K (n := 2) rfl (pgs_cons (pg_name (i := 7) sc__law_standings.nd rfl (.inl rfl)) (pgs_cons (pg_name (i := 8) sc__law_standings.nd rfl (.inl rfl)) pgs_nil)))
        (pss_cons (ps_set (i := 9) sc__law_standings.nd rfl (.inl rfl) (pe_tup (pa_cons (pv 7) (pa_cons (pe_callC c__law_stood hr gd (by rfl) (pa_cons (pv 6) (pa_cons (pv 8) pa_nil))) pa_nil))))
      (pss_one (ps_if (pt_cmpR (opNotInQ rfl rfl rfl hu) (pv 9) (pv 3) (by rfl))
        (pss_cons (psQPut rfl rfl rfl hu (pv 3) (pv 9) pe_bl rfl)
      (pss_one (ps_expr (pe_bm PySem.F.plainAttrs_list PySem.F.slot_list_append PySem.F.type_list_append mt_append (pv 4) (pa_cons (pv 9) pa_nil)))))
        pss_nil)))))))
      (pss_one (ps_ret (pe_callB (bSortND hu) (by rfl) B.sorted (by decide +kernel) (pa_cons (pe_lc (own := [("end", 7), ("standing", 6)]) rfl sc__law_standings.nd (piQ rfl rfl rfl (pv 3)) (blkOk_by (N := N__law_standings) (sc := defScope s__law_standings) (by decide +kernel)) (fun _ _ _ _ _ => (pgT K (n := 2) rfl (pgs_cons (pg_name (i := 7) sc__law_standings.nd rfl (.inl rfl)) (pgs_cons (pg_name (i := 6) sc__law_standings.nd rfl (.inl rfl)) pgs_nil)))) (fun _ _ _ _ _ => (pts_one (pt_cmpR op_eq (pv 7) (pv 1) (nomark _)))) (fun _ _ _ _ _ => (pv 6))) pa_nil))))))), fun ws U P h => ?_⟩
  try dsimp only [cxOf, Cx.nox]
  obtain ⟨x, ps, ls, n, dn, rfl, hd, ok, hn, q⟩ := h
  have hz := ok.few
  have nd := ok.nd
  have hf := ok.lf
  obtain ⟨_, hd1, hd3⟩ := ok.nms _ hn
  have lok := own_ls ok
  have dn0 : dn = depOf ps n := (depOf_eq nd hn).symm
  refine sw_seq (sw_asg (ev_op ?_))
  walk_at "tv"
  refine ⟨[.int 0], rfl, by decide, ?_⟩
  refine ev_call (ev_cons (ev_var rfl (ev_cons (ev_var rfl (ev_nil ?_)))))
  refine ⟨x, ps, ls, n, dn, rfl, hd, hz, nd, hn, ?_⟩
  refine r2_rep (by simp) (by omega) (by omega) (by decide) ?_
  rw [rep_ints]
  refine gw_name ?_
  walk_at "tv"
  refine ev_dnewQ (P0 := Pg) (w0 := w) (fun f hf0 => ?_)
  refine ev_cons (ev_lstM (ev_cons (ev_tup (ev_cons (ev_var rfl (ev_cons (ev_var rfl (ev_nil ⟨[.str n, nts (List.replicate dn 0)], rfl, (show 2 ≤ sizeLine by decide), ev_nil ⟨(show 1 ≤ sizeLine by decide), fun l hln => ev_nil ⟨_, _, rfl, ?_⟩⟩⟩))))))))
  walk_at "tv"
  have nlf : l ≠ f := fun z => by rw [z, put_same] at hln; cases hln
  have ul : U l = none := by rwa [put_ne nlf] at hln
  have all480 : ∀ a : Str × List Nat, Clo.R1 (nxS ls) (n, List.replicate dn 0) a → a ∈ (ps.map (·.1)).flatMap fun q => (stS 3).map fun s => (q, s) := fun a ha => r1_all (fun y hy => ⟨lok.fin y hy, by rw [lok.len y hy]; exact lok.dp _ (lok.fin y hy)⟩) (fun m hm => by rw [List.eq_of_mem_replicate hm]; omega) ha
  have few480 : ((ps.map (·.1)).flatMap fun q => (stS 3).map fun s => (q, s)).length ≤ 480 := by rw [all_len, List.length_map]; omega
  have nm : ∀ a : Str × List Nat, (a = (n, List.replicate dn 0) ∨ Clo.R1 (nxS ls) (n, List.replicate dn 0) a) → NameOk a.1 ∧ a.2.length = depOf ps a.1 := fun a ha => by
    rcases ha with rfl | ha
    · exact ⟨(ok.nms _ hn).1, by simp [dn0]⟩
    · obtain ⟨w2, h1, h2⟩ := r1_wy.mp ha
      obtain ⟨y, hy, e'⟩ := wy_fin h1
      obtain ⟨p', hp', e2⟩ := List.mem_map.mp (lok.fin _ hy)
      refine ⟨?_, by rw [h2]; exact along_len lok h1⟩
      rw [e', ← e2]
      exact (ok.nms _ hp').1
  refine sw_while (fun m ρ V => ∃ fs qs x5 x6 x7 x8 x9 x10, ρ = [some x, some (.s n), some (.t ((List.replicate dn 0).map fun k : Nat => PyData.int (k : Int))), some (.r f), some (.r l), x5, x6, x7, x8, x9, x10] ∧ V f = some (.q Pg w K f (kvN fs)) ∧ V l = some (.l ((qs.map nodeD).map W.d)) ∧ (∀ c, c ≠ f → c ≠ l → V c = U c) ∧ Clo.Wk (nxS ls) (n, List.replicate dn 0) fs qs ∧ m = 2 * (480 - fs.length) + qs.length)
    (2 * 480 + 1) ⟨[], [(n, List.replicate dn 0)], none, none, none, none, none, none, rfl, by rw [put_ne nlf.symm, put_same]; rfl, by rw [put_same]; rfl, fun c h1 h2 => by rw [put_ne h2, put_ne h1], Clo.Wk.start _ _, rfl⟩ ?_
  rintro m ρ V ⟨fs, qs, x5, x6, x7, x8, x9, x10, rfl, hVf, hVl, hE, wv, rfl⟩
  have up : ∀ V' : UU, (∀ c, c ≠ f → c ≠ l → V' c = U c) → ∀ c b, U c = some b → V' c = some b := fun V' h' c b z => by
    rw [h' c (fun y => by rw [y, hf0] at z; cases z) (fun y => by rw [y, ul] at z; cases z)]
    exact z
  have inq : ∀ a ∈ qs, a = (n, List.replicate dn 0) ∨ Clo.R1 (nxS ls) (n, List.replicate dn 0) a := fun a ha => (wv.sb a ha).imp id (wv.cn a)
  walk_at "tv"
  refine ev_lst (ev_nil ⟨[], rfl, (show 0 ≤ sizeLine by decide), ?_⟩)
  refine r2_neM hVl (nodes_shaped fun a ha => (nm a (inq a ha)).1) (by decide +kernel) ?_
  rw [list_nil]
  refine ⟨_, rfl, fun ht => ?_, fun hf2 => ?_⟩
  · have ne : qs ≠ [] := fun z => by rw [z] at ht; cases ht
    obtain ⟨qs', e, rfl⟩ : ∃ qs' e, qs = qs' ++ [e] := ⟨qs.dropLast, qs.getLast ne, (List.dropLast_concat_getLast ne).symm⟩
    have he := nm e (inq e (by simp))
    refine sw_seq (sw_asg (ev_bm0 ?_))
    walk_at "tv"
    refine ⟨ty_M hVl, ?_⟩
    refine rm_pop (ws := (qs'.map nodeD).map W.d) (w := .d (nodeD e)) (by rw [hVl]; simp) ?_
    show GW K _ (.d (.tuple [.str e.1, nts e.2])) _ _ _
    refine gw_pair ?_
    walk_at "tv"
    have hV1f : put V l (.l ((qs'.map nodeD).map W.d)) f = some (.q Pg w K f (kvN fs)) := by rw [put_ne nlf.symm]; exact hVf
    have hE1 : ∀ c, c ≠ f → c ≠ l → put V l (.l ((qs'.map nodeD).map W.d)) c = U c := fun c h1 h2 => by rw [put_ne h2]; exact hE c h1 h2
    refine sw_for (iw_list (ev_lcFil (xs := ls) (h := lnD) (e := fun y => .tuple [.str y.2.1, shN y.2.2]) (f := fun y => decide (y.1 = e.1)) (own_tup (owns_cons gname_mono (own_name (by simp)) (owns_cons gname_mono (own_name (by simp)) (owns_cons gname_mono (own_name (by simp)) owns_nil)))) (ev_dget (ev_var rfl (ev_str ⟨ownK ps ls, .inr "lines", _, dk_of hd (up _ hE1), rfl, ownK_lines, rfl, by rw [sizeLine_eq]; omega, fun i y hy => ?_, ?_⟩)))))
    · refine gw_three ?_
      walk_at "tv"
      refine ⟨_, rfl, rfl, rfl, fun _ => ?_⟩
      walk_at "tv"
      exact ⟨[.str y.2.1, shN y.2.2], rfl, (show 2 ≤ sizeLine by decide), rfl, rfl⟩
    · generalize hkl : (ls.filter fun y => decide (y.1 = e.1)) = kl
      have nx : nxS ls e = kl.map fun y => (y.2.1, stood e.2 y.2.2) := by rw [nxS, hkl]
      refine ⟨_, rfl, fun i ρ V2 => ∃ fs2 qs2 x7 x8 x9 x10, ρ = [some x, some (.s n), some (.t ((List.replicate dn 0).map fun k : Nat => PyData.int (k : Int))), some (.r f), some (.r l), some (.s e.1), some (.d (nts e.2)), x7, x8, x9, x10] ∧ V2 f = some (.q Pg w K f (kvN fs2)) ∧ V2 l = some (.l ((qs2.map nodeD).map W.d)) ∧ (∀ c, c ≠ f → c ≠ l → V2 c = U c) ∧ Clo.Gk (nxS ls) (n, List.replicate dn 0) e ((nxS ls e).take i) fs2 qs2 ∧ 2 * (480 - fs2.length) + qs2.length < 2 * (480 - fs.length) + (qs' ++ [e]).length,
        ⟨fs, qs', x7, x8, x9, x10, rfl, hV1f, put_same, hE1, wv.go, by simp⟩, ?_, ?_⟩
      · rintro i ρ V2 hi ⟨fs2, qs2, x7, x8, x9, x10, rfl, h1, h2, h3, gk, hm⟩
        have hil : i < kl.length := by simpa using hi
        have hy : kl[i]? = some kl[i] := List.getElem?_eq_getElem hil
        generalize kl[i] = y at hy
        show GW K _ (.d ((kl.map fun y : Ln => PyData.tuple [.str y.2.1, shN y.2.2]).getD i .none)) _ _ _
        rw [getD_at hy]
        have ymem : y ∈ ls ∧ y.1 = e.1 := by
          have := List.mem_of_getElem? hy
          rw [← hkl, List.mem_filter, decide_eq_true_eq] at this
          exact this
        have few2 : fs2.length ≤ 480 := Nat.le_trans (gk.few _ all480) few480
        have qs2l := gk.ln
        refine gw_pair ?_
        walk_at "tv"
        refine ⟨e.2, y.2.2, rfl, by rw [lok.len y ymem.1]; have := lok.dp _ (lok.fin y ymem.1); omega, fun i w hw h0 => by rw [he.2, ← ymem.2]; exact (lok.few y ymem.1 i w hw).2 h0, ?_⟩
        walk_at "tv"
        refine ⟨[.str y.2.1, nts (stood e.2 y.2.2)], rfl, (show 2 ≤ sizeLine by decide), ?_⟩
        walk_at "tv"
        have tk : (nxS ls e).take (i + 1) = (nxS ls e).take i ++ [(y.2.1, stood e.2 y.2.2)] := by
          rw [nx, List.take_add_one, List.getElem?_map, hy]
          rfl
        refine r2_inQ h1 (node_keys (y.2.1, stood e.2 y.2.2)) (node_depth (y.2.1, stood e.2 y.2.2)) ?_
        refine ⟨_, rfl, fun b1 => ?_, fun b0 => ?_⟩
        · have hno : (y.2.1, stood e.2 y.2.2) ∉ fs2 := fun z => by
            rw [if_pos rfl, Bool.not_eq_true', decide_eq_false_iff_not] at b1
            exact b1 (key_mem.mpr z)
          have gk2 := gk.add (y := (y.2.1, stood e.2 y.2.2)) (by rw [nx]; exact List.mem_map_of_mem (f := fun y : Ln => (y.2.1, stood e.2 y.2.2)) (List.mem_of_getElem? hy)) hno
          have few3 : (fs2 ++ [(y.2.1, stood e.2 y.2.2)]).length ≤ 480 := Nat.le_trans (gk2.few _ all480) few480
          rw [List.length_append, List.length_singleton] at few3
          refine sw_seq (sw_qput (ev_bl (ev_var rfl (ev_var rfl ⟨f, kvN fs2, _, rfl, rfl, h1, node_keys (y.2.1, stood e.2 y.2.2), node_depth (y.2.1, stood e.2 y.2.2), by rw [kvN, List.length_map, sizeLine_eq]; omega, fun z => hno (key_mem.mp z), ?_⟩))))
          refine sw_drop (ev_bm ?_)
          walk_at "tv"
          have h2' : put V2 f (.q Pg w K f (kvN fs2 ++ [(PyData.tuple [.str y.2.1, nts (stood e.2 y.2.2)], W.b true)])) l = some (.l ((qs2.map nodeD).map W.d)) := by rw [put_ne nlf]; exact h2
          refine ⟨ty_M h2', ?_⟩
          walk_at "tv"
          refine rm_append h2' (by rw [List.length_map, List.length_map, sizeLine_eq]; omega) ?_
          refine ⟨fs2 ++ [(y.2.1, stood e.2 y.2.2)], qs2 ++ [(y.2.1, stood e.2 y.2.2)], _, _, _, _, rfl, ?_, ?_, fun c c1 c2 => by rw [put_ne c2, put_ne c1]; exact h3 c c1 c2, by rw [tk]; exact gk2, ?_⟩
          · rw [put_ne nlf.symm, put_same, kvN, kvN, List.map_append]
            rfl
          · rw [put_same, List.map_append, List.map_append]
            rfl
          · simp only [List.length_append, List.length_singleton] at hm ⊢
            omega
        · have hyes : (y.2.1, stood e.2 y.2.2) ∈ fs2 := by
            rw [if_pos rfl, Bool.not_eq_false', decide_eq_true_eq] at b0
            exact key_mem.mp b0
          exact sw_next ⟨fs2, qs2, _, _, _, _, rfl, h1, h2, h3, by rw [tk]; exact gk.skip hyes, hm⟩
      · rintro ρ V2 ⟨fs2, qs2, x7, x8, x9, x10, rfl, h1, h2, h3, gk, hm⟩
        rw [List.length_map, List.take_of_length_le (by rw [nx, List.length_map]; exact Nat.le_refl _)] at gk
        exact ⟨_, hm, fs2, qs2, _, _, _, _, _, _, rfl, h1, h2, h3, gk.fin, rfl⟩
  · have e0 : qs = [] := by
      rw [Bool.not_eq_false', decide_eq_true_eq] at hf2
      exact hf2
    subst e0
    refine sw_ret (ev_less (ev_cb (ev_cons ?_)))
    refine ev_lc (own_tup (owns_cons gname_mono (own_name (by simp)) (owns_cons gname_mono (own_name (by simp)) owns_nil))) (iw_Q (ev_var rfl ⟨f, kvN fs, rfl, hVf, ?_⟩))
    refine ⟨fun i acc V2 => V2 = cut V f ∧ acc = ((fs.take i).filter fun a => decide (a.1 = n)).map fun a => nts a.2, ⟨rfl, rfl⟩, ?_, ?_⟩
    · rintro i acc V2 hi hl ⟨rfl, rfl⟩
      have hil : i < fs.length := by simpa [kvN] using hi
      have hy : fs[i]? = some fs[i] := List.getElem?_eq_getElem hil
      generalize fs[i] = y at hy
      show GW K _ (.d (((kvN fs).map fun p : PyData × W => p.1).getD i .none)) _ _ _
      rw [show ((kvN fs).map fun p : PyData × W => p.1) = fs.map nodeD by rw [kvN, List.map_map]; rfl, getD_at hy]
      show GW K _ (.d (.tuple [.str y.1, nts y.2])) _ _ _
      refine gw_pair ?_
      walk_at "tv"
      have fewf : fs.length ≤ 480 := Nat.le_trans (wv.few _ all480) few480
      have st : (((fs.take (i + 1)).filter fun a => decide (a.1 = n)).map fun a => nts a.2) = (((fs.take i).filter fun a => decide (a.1 = n)).map fun a => nts a.2) ++ if decide (y.1 = n) = true then [nts y.2] else [] := by
        rw [List.take_add_one, hy, List.filter_append, List.map_append]
        congr 1
        cases z : decide (y.1 = n) <;> simp [z]
      refine ⟨_, rfl, fun b1 => ?_, fun b0 => ?_⟩
      · walk_at "tv"
        refine ⟨_, rfl, by rw [sizeLine_eq]; omega, rfl, ?_⟩
        rw [st, if_pos b1]
      · refine ⟨rfl, ?_⟩
        rw [st, b0]
        simp
    · rintro acc V2 hl ⟨rfl, rfl⟩
      rw [List.take_of_length_le (by rw [kvN, List.length_map]; exact Nat.le_refl _), show (((fs.filter fun a => decide (a.1 = n))).map fun a => nts a.2) = ((fs.filter fun a => decide (a.1 = n)).map fun a => a.2).map nts by rw [List.map_map]; rfl]
      generalize hrs : ((fs.filter fun a => decide (a.1 = n)).map fun a => a.2) = rs
      walk_at "tv"
      refine rl_sortND (fun d1 h1 d2 h2 => ?_) (.inl fun d1 h1 => ?_) (fun d1 h1 => ?_) ?_
      · obtain ⟨a1, _, rfl⟩ := List.mem_map.mp h1
        obtain ⟨a2, _, rfl⟩ := List.mem_map.mp h2
        exact nts_alike a1 a2
      · obtain ⟨a1, m1, rfl⟩ := List.mem_map.mp h1
        rw [← hrs] at m1
        obtain ⟨a, m2, rfl⟩ := List.mem_map.mp m1
        have m3 := List.mem_filter.mp m2
        have len := (nm a (.inr (wv.cn a m3.1))).2
        rw [of_decide_eq_true m3.2, ← dn0] at len
        cases ha : a.2 with
        | nil => rw [ha] at len; simp at len; omega
        | cons z zs => exact ⟨_, _, rfl⟩
      · obtain ⟨a1, _, rfl⟩ := List.mem_map.mp h1
        exact nts_depth a1
      · obtain ⟨ys, p1, p2⟩ := srtD_map (f := nts) rs
        rw [p2]
        refine ⟨U, fun c b z => ?_, q ys (fun s => ?_) (by rw [p1.length_eq, ← hrs, List.length_map]; exact Nat.le_trans (List.length_filter_le _ _) (Nat.le_trans (wv.few _ all480) few480))⟩
        · rw [cut_ne (fun y => by rw [y, hf0] at z; cases z)]
          exact up V hE c b z
        · rw [p1.mem_iff, ← hrs, List.mem_map]
          constructor
          · rintro ⟨a, m2, rfl⟩
            have m3 := List.mem_filter.mp m2
            obtain ⟨w2, h1, h2⟩ := r1_wy.mp (wv.cn a m3.1)
            rw [of_decide_eq_true m3.2] at h1
            exact ⟨w2, h1, h2⟩
          · rintro ⟨w2, h1, h2⟩
            exact ⟨(n, s), List.mem_filter.mpr ⟨(wv.all (n, s)).mpr (r1_wy.mpr ⟨w2, h1, h2⟩), decide_eq_true rfl⟩, rfl⟩
theorem cal__law_names (B : Bi mg) (T : At K mg s__law_names "_law_names") (c__law_take : Cal Pg w K mg base s__law_take "_law_take" 1 ["pot", "upto"] pTake) (c__law_of : Cal Pg w K mg base s__law_of "_law_of" 2 ["pot", "some"] pOf2)   : Cal Pg w K mg base s__law_names "_law_names" 3 ["pot", "many"] p_law_names7 := by
  refine calW T sc__law_names (fun _ _ _ _ _ _ us hl => match us, hl with | [_, _], _ => rfl) (by rintro ws U P ⟨a, n, m, rfl, _⟩; rfl) (fun f cdv A outer s H E hr gd => ?_)
  have hu : (A.deeper (envOfC "_law_names" (defScope s__law_names) s.heap.objs.size f cdv)).units + 70 < cLine := by have := hr.un; omega
  refine ⟨_, (pss_cons (ps_asg (pe_tup (pa_cons (pe_lst pa_nil) (pa_cons pe_str pa_nil))) (pgT K (n := 2) rfl (pgs_cons (pg_name (i := 2) sc__law_names.nd rfl (.inr rfl)) (pgs_cons (pg_name (i := 3) sc__law_names.nd rfl (.inr rfl)) pgs_nil))))
      (pss_cons (ps_for PassesOwn.never rfl (pi_range1 (by rfl) B.range (pa_cons (pv 1) pa_nil)) (pg_name (i := 4) sc__law_names.nd rfl (.inl rfl))
        (pss_cons (ps_set (i := 5) sc__law_names.nd rfl (.inr rfl) (peJoin K pe_str (pe_lc (own := [("sign", 8)]) rfl sc__law_names.nd (pi_range1 (by rfl) B.range (pa_cons (pe_op op_add pe_int (pe_callC c__law_of hr gd (by rfl) (pa_cons (pv 0) (pa_cons (pe_lst (pa_cons pe_int (pa_cons pe_int (pa_cons pe_int (pa_cons pe_int (pa_cons pe_int (pa_cons pe_int pa_nil))))))) pa_nil)))) pa_nil)) (blkOk_by (N := N__law_names) (sc := defScope s__law_names) (by decide +kernel)) (fun _ _ _ _ _ => (pg_name (i := 8) sc__law_names.nd rfl (.inl rfl))) (fun _ _ _ _ _ => pts_nil) (fun _ _ _ _ _ => (pe_callC c__law_of hr gd (by rfl) (pa_cons (pv 0) (pa_cons (pv 3) pa_nil)))))))
      (pss_cons (ps_set (i := 5) sc__law_names.nd rfl (.inr rfl) (pe_ifExp (pt_cmpR op_eq (pe_callC c__law_take hr gd (by rfl) (pa_cons (pv 0) (pa_cons pe_int pa_nil))) pe_int (nomark _)) (pe_callC c__law_of hr gd (by rfl) (pa_cons (pv 0) (pa_cons (pe_lst (pa_cons pe_str (pa_cons pe_str (pa_cons pe_str (pa_cons pe_str (pa_cons pe_str (pa_cons pe_str pa_nil))))))) pa_nil))) (pv 5)))
      (pss_cons (ps_setLc (i := 6) (own := [("one", 7)]) rfl sc__law_names.nd rfl rfl (sw_true rfl rfl rfl (by decide +kernel)) (piL K (pe_op (opCatL K) (pe_lst (pa_cons (pv 5) pa_nil)) (pe_lc (own := [("sign", 8)]) rfl sc__law_names.nd (pi_str (pv 3)) (blkOk_by (N := N__law_names) (sc := defScope s__law_names) (by decide +kernel)) (fun _ _ _ _ _ => (pg_name (i := 8) sc__law_names.nd rfl (.inl rfl))) (fun _ _ _ _ _ => pts_nil) (fun _ _ _ _ _ => (pe_op opAddS (pv 8) (pe_slice sl_str (pv 5) (po_some pe_int) po_none)))))) (blkOk_by (N := N__law_names) (sc := defScope s__law_names) (by decide +kernel)) (fun _ _ _ _ _ => (pg_name (i := 7) sc__law_names.nd rfl (.inl rfl))) (fun _ _ _ _ _ => (pts_one (pt_cmpR (opNotIn K) (pv 7) (pv 2) (by rfl)))) (fun _ _ _ _ _ => (pv 7)))
      (pss_one (ps_expr (pe_bm PySem.F.plainAttrs_list PySem.F.slot_list_append PySem.F.type_list_append mt_append (pv 2) (pa_cons (pe_ix (ixL K) (pv 6) pe_int (fun _ _ => rfl)) pa_nil))))))))
      (pss_one (ps_ret (pv 2))))), fun ws U P h => ?_⟩
  try dsimp only [cxOf, Cx.nox]
  obtain ⟨a, n, m, rfl, hP, hn, hm, q⟩ := h
  refine sw_seq (sw_asg (ev_tupW ?_))
  walk_at "tv"
  refine ev_lstM ?_
  walk_at "tv"
  refine ⟨Nat.zero_le _, fun D hD => ?_⟩
  have neD : D ≠ a := fun z => by
    obtain ⟨u, v, c, e, _⟩ := hP
    rw [z, e] at hD
    cases hD
  walk_at "tv"
  refine ⟨by show 2 ≤ sizeLine; decide, gw_tupW rfl ?_⟩
  refine gsw_cons (gw_name (gsw_cons (gw_name (gsw_nil ?_))))
  show SW K (tSeq _ _) [some (.r a), some (.i (m : Int)), some (.r D), some (.s ABC), none, none, none, none, none] _ (retE P)
  refine sw_seq (sw_for (iw_rng1 ?_))
  walk_at "tv"
  have hll : ((m : Int)).toNat = m := Int.toNat_natCast m
  refine ⟨m, rfl, by omega, by omega, fun i ρ V => ∃ (ns : List Str) (x4 x5 x6 : Option W), ρ = [some (.r a), some (.i (m : Int)), some (.r D), some (.s ABC), x4, x5, x6, none, none] ∧ ns.length = i ∧ (∀ s ∈ ns, NameX s) ∧ ns.Nodup ∧ Pt V a (n + 20 * i) ∧ V D = some (.l ((ns.map PyData.str).map W.d)) ∧ (∀ c, c ≠ a → c ≠ D → V c = U c),
    ⟨[], none, none, none, rfl, rfl, by simp, by simp, hP.els els_put neD.symm, put_same, fun c _ h2 => put_ne h2⟩, ?_, ?_⟩
  · rintro i ρ V hi ⟨ns, x4, x5, x6, rfl, e2, e3, e3', e4, e5, e6⟩
    rw [hll] at hi
    refine gw_name ?_
    show SW K (tSeq _ _) [some (.r a), some (.i (m : Int)), some (.r D), some (.s ABC), some (.i (0 + (i : Nat))), x5, x6, none, none] V _
    refine sw_seqC (fun ρ V2 => ∃ w x4, ρ = [some (.r a), some (.i (m : Int)), some (.r D), some (.s ABC), x4, some (.s w), x6, none, none] ∧ WordX w ∧ Pt V2 a (n + 20 * i + 9) ∧ Els a V V2) ?_ ?_
    · refine sw_asg (ev_m1 (ev_str ⟨_, rfl, ?_⟩))
      refine ev_lc (own_name (by simp)) (iw_rng1 ?_)
      walk_at "tv"
      refine ev_lst ?_
      walk_at "tv"
      refine ⟨([0, 0, 0, 1, 2, 7] : List Int).map .int, rfl, by show 6 ≤ sizeLine; decide, ?_⟩
      walk_at "tv"
      refine .inl ⟨a, n + 20 * i, _, rfl, e4, by omega, by simp, by show 6 < 1000000; decide, fun x V1 hx hP1 he1 => ?_⟩
      obtain ⟨y, hy, rfl⟩ := List.mem_map.mp hx
      obtain ⟨y, rfl, y7⟩ := low7x hy
      walk_at "tv"
      refine ⟨1 + (y : Int), rfl, by omega, by omega, fun j acc V2 => ∃ cs : List Nat, acc = cs.map (fun c => .str ⟨#[c]⟩) ∧ cs.length = j ∧ (∀ c ∈ cs, 97 ≤ c ∧ c ≤ 122) ∧ Pt V2 a (n + 20 * i + 1 + j) ∧ Els a V V2, ⟨[], rfl, rfl, by simp, hP1, he1⟩, ?_, ?_⟩
      · rintro j acc V2 hj hacc ⟨cs, rfl, c1, c2, c3, c4⟩
        have hj8 : j < 8 := by omega
        walk_at "tv"
        refine ⟨fun _ => ?_, fun z => nomatch z⟩
        walk_at "tv"
        refine .inr ⟨a, n + 20 * i + 1 + j, ABC, rfl, c3, by omega, by decide +kernel, by decide +kernel, fun c V3 hc hP3 he3 => ?_⟩
        refine ⟨_, rfl, Nat.lt_of_le_of_lt hacc (by rw [sizeLine_eq]; omega), cs ++ [c], by rw [List.map_append]; rfl, by rw [List.length_append, c1]; rfl, ?_, hP3, c4.trans he3⟩
        intro d hd
        rcases List.mem_append.mp hd with z | z
        · exact c2 d z
        · rw [List.mem_singleton.mp z]
          exact abc_mem hc
      · rintro acc V2 _ ⟨cs, rfl, c1, c2, c3, c4⟩
        have c8 : 1 ≤ cs.length ∧ cs.length ≤ 8 := by omega
        refine rm_join (ys := cs.map fun c => (⟨#[c]⟩ : Str)) (.inr (by rw [List.map_map]; rfl)) ?_ ?_
        · have a1 := sum_le (B := 1) (r := cs.map fun c => (⟨#[c]⟩ : Str)) fun w hw => by
            obtain ⟨c, _, rfl⟩ := List.mem_map.mp hw
            rw [← str_len]
            exact Nat.le_refl 1
          have e0 : (Str.ofString "").length = 0 := by decide +kernel
          rw [List.length_map] at a1 ⊢
          rw [e0]
          omega
        · walk_at "tv"
          exact ⟨wordOf cs, _, rfl, ⟨word_ok c8.1 c8.2 c2, .inr (by rw [← str_len, word_cs, c1]; omega)⟩, c3.mono (by omega), c4⟩
    rintro ρ V2 ⟨w, x4, rfl, wk, hP2, he2⟩
    show SW K (tSeq _ _) [some (.r a), some (.i (m : Int)), some (.r D), some (.s ABC), x4, some (.s w), x6, none, none] V2 _
    refine sw_seqC (fun ρ V3 => ∃ w, ρ = [some (.r a), some (.i (m : Int)), some (.r D), some (.s ABC), x4, some (.s w), x6, none, none] ∧ WordX w ∧ Pt V3 a (n + 20 * i + 11) ∧ Els a V V3) ?_ ?_
    · walk_at "tv"
      refine ⟨a, n + 20 * i + 9, 11, rfl, hP2, by omega, by decide, by decide, fun d V3 d0 d1 hP3 he3 => ?_⟩
      walk_at "tv"
      refine ⟨_, rfl, fun hb => ?_, fun hb => ?_⟩
      · walk_at "tv"
        refine ev_lst ?_
        walk_at "tv"
        refine ⟨KWS.map .str, rfl, by show 6 ≤ sizeLine; decide, ?_⟩
        walk_at "tv"
        refine .inl ⟨a, n + 20 * i + 10, _, rfl, hP3, by omega, by simp [KWS], by show 6 < 1000000; decide, fun x V4 hx hP4 he4 => ?_⟩
        obtain ⟨w', hw', rfl⟩ := List.mem_map.mp hx
        walk_at "tv"
        exact ⟨w', rfl, ⟨kws_ok hw', .inl hw'⟩, hP4, (he2.trans he3).trans he4⟩
      · walk_at "tv"
        exact ⟨w, rfl, wk, hP3.mono (by omega), he2.trans he3⟩
    rintro ρ V3 ⟨w, rfl, wk, hP3, he3⟩
    have f3 : V3 D = some (.l ((ns.map PyData.str).map W.d)) := (he3 D neD).trans e5
    have hz : w.length ≤ sizeLine := by have := wk.a.hi; rw [sizeLine_eq]; omega
    show SW K (tSeq _ _) [some (.r a), some (.i (m : Int)), some (.r D), some (.s ABC), x4, some (.s w), x6, none, none] V3 _
    refine sw_seq (sw_asg (ev_lcFil (xs := alts w) (h := PyData.str) (e := PyData.str) (f := fun s => !decide (s ∈ ns)) (own_name (by simp)) ?_))
    refine ev_op (ev_lst ?_)
    walk_at "tv"
    refine ⟨[.str w], rfl, by show 1 ≤ sizeLine; decide, ?_⟩
    refine ev_lcS (f := fun c => .str (⟨#[c]⟩ ++ cutS w (some 1) none)) (own_name (by simp)) ?_
    walk_at "tv"
    refine ⟨ABC, rfl, by rw [← str_len, abc_len, sizeLine_eq]; omega, fun c hc => ?_, ?_⟩
    · unfold Turn1
      walk_at "tv"
      refine ⟨rfl, ?_⟩
      refine ev_op (ev_var rfl (ev_slS (ev_var rfl (eo_some (ev_int ⟨1, rfl, eo_none ⟨w, rfl, hz, ?_⟩⟩)))))
      have nk := (name_alt wk.a (abc_mem hc)).hi
      rw [← str_len, cons_cs, List.length_cons, str_len] at nk
      refine r2_addS ?_ ⟨rfl, rfl⟩
      rw [← str_len (⟨#[c]⟩ : Str), sizeLine_eq]
      show 1 + _ ≤ _
      omega
    refine r2_catL (by rw [List.length_map, abc_len, sizeLine_eq]; show 1 + 26 ≤ _; omega) ?_
    refine ⟨by rw [List.map_cons, List.map_map]; rfl, by rw [List.length_cons, List.length_map, abc_len, sizeLine_eq]; omega, fun j s hs => ?_, ?_⟩
    · walk_at "tv"
      refine r2_inSsM (neg := true) f3 ?_
      refine ⟨_, rfl, by rw [if_pos rfl], rfl, fun _ => ?_⟩
      walk_at "tv"
      exact ⟨rfl, rfl⟩
    obtain ⟨s, r, he⟩ := alts_new (w := w) (ns := ns) (by omega)
    rw [he]
    have hs : s ∈ alts w ∧ s ∉ ns := by
      have z : s ∈ (alts w).filter (fun s => !decide (s ∈ ns)) := by rw [he]; exact List.mem_cons_self ..
      obtain ⟨z1, z2⟩ := List.mem_filter.mp z
      exact ⟨z1, by simpa using z2⟩
    walk_at "tv"
    refine ev_bm ?_
    walk_at "tv"
    refine ⟨ty_M f3, ?_⟩
    walk_at "tv"
    refine r2_ixL (x := .str s) (show atI ((s :: r).map PyData.str) ((0 : Nat) : Int) = some (.str s) from L2.atI_nat rfl) ?_
    walk_at "tv"
    refine rm_append f3 (by rw [List.length_map, List.length_map, e2, sizeLine_eq]; omega) ?_
    refine ⟨ns ++ [s], _, _, _, rfl, by rw [List.length_append, e2]; rfl, ?_, ?_, (hP3.mono (by omega)).els els_put neD.symm, by rw [put_same, List.map_append, List.map_append]; rfl, fun c h1 h2 => by rw [put_ne h2, he3 c h1, e6 c h1 h2]⟩
    · intro t ht
      rcases List.mem_append.mp ht with z | z
      · exact e3 t z
      · rw [List.mem_singleton.mp z]
        exact ⟨alts_ok wk.a hs.1, alts_x wk hs.1⟩
    · refine List.nodup_append.mpr ⟨e3', by simp, fun x hx y hy z => ?_⟩
      rw [List.mem_singleton.mp hy] at z
      exact hs.2 (z ▸ hx)
  · rintro ρ V ⟨ns, x4, x5, x6, rfl, e2, e3, e3', e4, e5, e6⟩
    rw [hll] at e2 e4
    show SW K (tRet (tVar 2)) _ V (retE P)
    refine sw_freeze (i := 2) (xs := ns.map .str) rfl e5 ?_
    walk_at "tv"
    refine q ns _ e2 e3 e3' (by obtain ⟨u, v, c, h1, h2⟩ := e4; exact ⟨u, v, c, by rw [cut_ne neD.symm]; exact h1, h2⟩) fun c hc => ?_
    by_cases z : c = D
    · rw [z, cut_same, hD]
    · rw [cut_ne z, e6 c hc z]
theorem cal__law_shift (B : Bi mg) (T : At K mg s__law_shift "_law_shift") (c__law_take : Cal Pg w K mg base s__law_take "_law_take" 1 ["pot", "upto"] pTake) (c__law_of : Cal Pg w K mg base s__law_of "_law_of" 2 ["pot", "some"] pOf2)   : Cal Pg w K mg base s__law_shift "_law_shift" 3 ["pot", "depth", "later"] p_law_shift21 := by
  refine calW T sc__law_shift (fun _ _ _ _ _ _ us hl => match us, hl with | [_, _, _], _ => rfl) (by rintro ws U P ⟨a, n, dep, lat, rfl, _⟩; rfl) (fun f cdv A outer s H E hr gd => ?_)
  have hu : (A.deeper (envOfC "_law_shift" (defScope s__law_shift) s.heap.objs.size f cdv)).units + 70 < cLine := by have := hr.un; omega
  refine ⟨_, (pss_cons (ps_set (i := 3) sc__law_shift.nd rfl (.inl rfl) (pe_lst pa_nil))
      (pss_cons (ps_for PassesOwn.never rfl (pi_range1 (by rfl) B.range (pa_cons (pv 2) pa_nil)) (pg_name (i := 4) sc__law_shift.nd rfl (.inl rfl))
        (pss_cons (ps_set (i := 5) sc__law_shift.nd rfl (.inl rfl) (pe_callC c__law_take hr gd (by rfl) (pa_cons (pv 0) (pa_cons pe_int pa_nil))))
      (pss_one (ps_if (PW.pt (pw_or (pt_cmpR op_ge (pv 4) (pv 1) (nomark _)) (pw_or1 (pt_cmpR op_eq (pv 5) pe_int (nomark _)))))
        (pss_one (ps_expr (pe_bm PySem.F.plainAttrs_list PySem.F.slot_list_append PySem.F.type_list_append mt_append (pv 3) (pa_cons (pe_tup (pa_cons pe_str (pa_cons (pe_callTy b_int (by rfl) B.int (by decide +kernel) (pa_cons (pe_callC c__law_of hr gd (by rfl) (pa_cons (pv 0) (pa_cons (pe_lst (pa_cons pe_int (pa_cons pe_int (pa_cons pe_int (pa_cons pe_int (pa_cons pe_int pa_nil)))))) pa_nil))) pa_nil)) pa_nil))) pa_nil))))
        (pss_one (ps_expr (pe_bm PySem.F.plainAttrs_list PySem.F.slot_list_append PySem.F.type_list_append mt_append (pv 3) (pa_cons (pe_tup (pa_cons pe_str (pa_cons (pe_callTy b_int (by rfl) B.int (by decide +kernel) (pa_cons (pe_ifExp (pt_cmpR op_gt (pv 5) pe_int (nomark _)) (pe_callC c__law_of hr gd (by rfl) (pa_cons (pv 0) (pa_cons (pe_lst (pa_cons pe_int (pa_cons pe_int (pa_cons pe_int (pa_cons pe_int (pa_cons pe_int pa_nil)))))) pa_nil))) pe_int) pa_nil)) pa_nil))) pa_nil))))))))
      (pss_one (ps_ret (pe_callTy (bTup K) (by rfl) B.tuple (by decide +kernel) (pa_cons (pv 3) pa_nil)))))), fun ws U P h => ?_⟩
  try dsimp only [cxOf, Cx.nox]
  obtain ⟨a, n, dep, lat, rfl, hP, hn, hl, q⟩ := h
  walk_at "tv"
  refine ev_lstM ?_
  walk_at "tv"
  refine ⟨Nat.zero_le _, fun D hD => ?_⟩
  have neD : D ≠ a := fun z => by
    obtain ⟨u, v, c, e, _⟩ := hP
    rw [z, e] at hD
    cases hD
  walk_at "tv"
  refine sw_for (iw_rng1 ?_)
  walk_at "tv"
  have hll : ((lat : Int)).toNat = lat := Int.toNat_natCast lat
  refine ⟨lat, rfl, by omega, by omega, fun i ρ V => ∃ (l : List (Bool × Nat)) (x4 x5 : Option W), ρ = [some (.r a), some (.i (dep : Int)), some (.i (lat : Int)), some (.r D), x4, x5] ∧ l.length = i ∧ (∀ i w, l[i]? = some w → w.2 ≤ 3 ∧ (w.1 = true → i < dep ∧ w.2 ≤ 2)) ∧ Pt V a (n + 3 * i) ∧ V D = some (.l ((l.map wdN).map W.d)) ∧ (∀ c, c ≠ a → c ≠ D → V c = U c),
    ⟨[], none, none, rfl, rfl, by simp, hP.els els_put neD.symm, put_same, fun c _ h2 => put_ne h2⟩, ?_, ?_⟩
  · rintro i ρ V hi ⟨l, x4, x5, rfl, e2, e3, e4, e5, e6⟩
    rw [hll] at hi
    walk_at "tv"
    refine ⟨a, n + 3 * i, 8, rfl, e4, by omega, by decide, by decide, fun way V1 w0 w1 hP1 he1 => ?_⟩
    have f1 : V1 D = some (.l ((l.map wdN).map W.d)) := (he1 D neD).trans e5
    have sz : ((l.map wdN).map W.d).length < sizeLine := by
      rw [List.length_map, List.length_map, e2, sizeLine_eq]
      omega
    have fin : ∀ (sg : Bool) (y : Nat) (V2 : UU), y ≤ 3 → (sg = true → i < dep ∧ y ≤ 2) → Pt V2 a (n + 3 * (i + 1)) → Els a V1 V2 →
        ∃ (l' : List (Bool × Nat)) (x4 x5 : Option W), [some (W.r a), some (.i (dep : Int)), some (.i (lat : Int)), some (.r D), some (.i (0 + (i : Nat))), some (.i way)] = [some (.r a), some (.i (dep : Int)), some (.i (lat : Int)), some (.r D), x4, x5] ∧ l'.length = i + 1 ∧ (∀ i w, l'[i]? = some w → w.2 ≤ 3 ∧ (w.1 = true → i < dep ∧ w.2 ≤ 2)) ∧ Pt (put V2 D (.l ((l.map wdN).map W.d ++ [W.d (.tuple [.str (sign sg), .int (y : Int)])]))) a (n + 3 * (i + 1)) ∧ put V2 D (.l ((l.map wdN).map W.d ++ [W.d (.tuple [.str (sign sg), .int (y : Int)])])) D = some (.l ((l'.map wdN).map W.d)) ∧ (∀ c, c ≠ a → c ≠ D → put V2 D (.l ((l.map wdN).map W.d ++ [W.d (.tuple [.str (sign sg), .int (y : Int)])])) c = U c) := fun sg y V2 hy hsg hP2 he2 => by
      refine ⟨l ++ [(sg, y)], _, _, rfl, by rw [List.length_append, e2]; rfl, ?_, hP2.els els_put neD.symm, by rw [put_same, List.map_append, List.map_append]; rfl, fun c h1 h2 => by rw [put_ne h2, he2 c h1, he1 c h1, e6 c h1 h2]⟩
      intro j w hj
      by_cases hjl : j < l.length
      · rw [List.getElem?_append_left hjl] at hj
        exact e3 j w hj
      · rw [List.getElem?_append_right (by omega)] at hj
        have hj0 : j - l.length = 0 := by
          obtain ⟨z, _⟩ := List.getElem?_eq_some_iff.mp hj
          simp at z
          omega
        rw [hj0] at hj
        cases hj
        exact ⟨hy, fun z => by have := hsg z; omega⟩
    walk_at "tv"
    refine ⟨_, rfl, fun hc => ?_, fun hc => ?_⟩
    · walk_at "tv"
      refine ⟨_, rfl, fun hd => ?_, fun hd => ?_⟩
      · walk_at "tv"
        refine ev_bm ?_
        walk_at "tv"
        refine ⟨ty_M f1, ?_⟩
        walk_at "tv"
        refine ev_lst ?_
        walk_at "tv"
        refine ⟨([0, 0, 0, 1, 3] : List Int).map .int, rfl, by show 5 ≤ sizeLine; decide, ?_⟩
        walk_at "tv"
        refine .inl ⟨a, n + 3 * i + 1, _, rfl, hP1, by omega, by simp, by show 5 < 1000000; decide, fun x V2 hx hP2 he2 => ?_⟩
        obtain ⟨y, hy, rfl⟩ := List.mem_map.mp hx
        obtain ⟨y, rfl, hy3⟩ := low5 hy
        walk_at "tv"
        refine ⟨[.str "=", .int (y : Int)], rfl, by show 2 ≤ sizeLine; decide, ?_⟩
        walk_at "tv"
        refine rm_append ((he2 D neD).trans f1) sz ?_
        exact fin false y V2 hy3 (fun z => nomatch z) (hP2.mono (by omega)) he2
      · walk_at "tv"
        refine ev_bm ?_
        walk_at "tv"
        refine ⟨ty_M f1, ?_⟩
        walk_at "tv"
        refine ⟨_, rfl, fun hw => ?_, fun hw => ?_⟩
        · walk_at "tv"
          refine ev_lst ?_
          walk_at "tv"
          refine ⟨([0, 0, 1, 1, 2] : List Int).map .int, rfl, by show 5 ≤ sizeLine; decide, ?_⟩
          walk_at "tv"
          refine .inl ⟨a, n + 3 * i + 1, _, rfl, hP1, by omega, by simp, by show 5 < 1000000; decide, fun x V2 hx hP2 he2 => ?_⟩
          obtain ⟨y, hy, rfl⟩ := List.mem_map.mp hx
          obtain ⟨y, rfl, hy2⟩ := low52 hy
          have hy3 : y ≤ 3 := by omega
          walk_at "tv"
          refine ⟨[.str "+", .int (y : Int)], rfl, by show 2 ≤ sizeLine; decide, ?_⟩
          walk_at "tv"
          refine rm_append ((he2 D neD).trans f1) sz ?_
          exact fin true y V2 hy3 (fun _ => by have := of_decide_eq_false hc; omega) (hP2.mono (by omega)) he2
        · walk_at "tv"
          refine ⟨[.str "+", .int 0], rfl, by show 2 ≤ sizeLine; decide, ?_⟩
          walk_at "tv"
          refine rm_append f1 sz ?_
          exact fin true 0 V1 (by decide) (fun _ => by have := of_decide_eq_false hc; omega) (hP1.mono (by omega)) Els.refl
    · refine ⟨fun _ => ?_, fun z => nomatch z⟩
      walk_at "tv"
      refine ev_bm ?_
      walk_at "tv"
      refine ⟨ty_M f1, ?_⟩
      walk_at "tv"
      refine ev_lst ?_
      walk_at "tv"
      refine ⟨([0, 0, 0, 1, 3] : List Int).map .int, rfl, by show 5 ≤ sizeLine; decide, ?_⟩
      walk_at "tv"
      refine .inl ⟨a, n + 3 * i + 1, _, rfl, hP1, by omega, by simp, by show 5 < 1000000; decide, fun x V2 hx hP2 he2 => ?_⟩
      obtain ⟨y, hy, rfl⟩ := List.mem_map.mp hx
      obtain ⟨y, rfl, hy3⟩ := low5 hy
      walk_at "tv"
      refine ⟨[.str "=", .int (y : Int)], rfl, by show 2 ≤ sizeLine; decide, ?_⟩
      walk_at "tv"
      refine rm_append ((he2 D neD).trans f1) sz ?_
      exact fin false y V2 hy3 (fun z => nomatch z) (hP2.mono (by omega)) he2
  · rintro ρ V ⟨l, x4, x5, rfl, e2, e3, e4, e5, e6⟩
    rw [hll] at e2 e4
    refine sw_freeze (i := 3) (xs := l.map wdN) rfl e5 ?_
    walk_at "tv"
    refine q l _ e2 e3 (by obtain ⟨u, v, c, h1, h2⟩ := e4; exact ⟨u, v, c, by rw [cut_ne neD.symm]; exact h1, h2⟩) fun c hc => ?_
    by_cases z : c = D
    · rw [z, cut_same, hD]
    · rw [cut_ne z, e6 c hc z]
theorem cal__law_any_plan (B : Bi mg) (T : At K mg s__law_any_plan "_law_any_plan") (c__law_take : Cal Pg w K mg base s__law_take "_law_take" 1 ["pot", "upto"] pTake) (c__law_of : Cal Pg w K mg base s__law_of "_law_of" 2 ["pot", "some"] pOf2) (c__law_names : Cal Pg w K mg base s__law_names "_law_names" 3 ["pot", "many"] p_law_names7) (c__law_shift : Cal Pg w K mg base s__law_shift "_law_shift" 3 ["pot", "depth", "later"] p_law_shift21)   : Cal Pg w K mg base s__law_any_plan "_law_any_plan" 4 ["pot", "most"] (p_any_plan21 K) := by
  refine calW T sc__law_any_plan (fun _ _ _ _ _ _ us hl => match us, hl with | [_, _], _ => rfl) (by rintro ws U P ⟨a, n, m, rfl, _⟩; rfl) (fun f cdv A outer s H E hr gd => ?_)
  have hu : (A.deeper (envOfC "_law_any_plan" (defScope s__law_any_plan) s.heap.objs.size f cdv)).units + 70 < cLine := by have := hr.un; omega
  refine ⟨_, (pss_cons (ps_set (i := 2) sc__law_any_plan.nd rfl (.inl rfl) (pe_callC c__law_names hr gd (by rfl) (pa_cons (pv 0) (pa_cons (pe_op op_add pe_int (pe_callC c__law_take hr gd (by rfl) (pa_cons (pv 0) (pa_cons (pv 1) pa_nil)))) pa_nil))))
      (pss_cons (ps_setLc (i := 3) (own := [("name", 9)]) rfl sc__law_any_plan.nd rfl rfl (sw_true rfl rfl rfl (by decide +kernel)) (piL K (pv 2)) (blkOk_by (N := N__law_any_plan) (sc := defScope s__law_any_plan) (by decide +kernel)) (fun _ _ _ _ _ => (pg_name (i := 9) sc__law_any_plan.nd rfl (.inl rfl))) (fun _ _ _ _ _ => pts_nil) (fun _ _ _ _ _ => (pe_tup (pa_cons (pv 9) (pa_cons (pe_callTy b_int (by rfl) B.int (by decide +kernel) (pa_cons (pe_callC c__law_of hr gd (by rfl) (pa_cons (pv 0) (pa_cons (pe_lst (pa_cons pe_int (pa_cons pe_int (pa_cons pe_int (pa_cons pe_int (pa_cons pe_int (pa_cons pe_int pa_nil))))))) pa_nil))) pa_nil)) pa_nil)))))
      (pss_cons (ps_par (i := 4) (j := 5) (by rfl) sc__law_any_plan.nd rfl rfl (by decide) rfl rfl (pa_cons (pe_lst pa_nil) (pa_cons (pe_callTy (bDictL K rfl) (by rfl) B.dict (by decide +kernel) (pa_cons (pv 3) pa_nil)) pa_nil)) (by rfl))
      (pss_cons (ps_for PassesOwn.never rfl (pi_range1 (by rfl) B.range (pa_cons (pe_callC c__law_of hr gd (by rfl) (pa_cons (pv 0) (pa_cons (pe_lst (pa_cons pe_int (pa_cons pe_int (pa_cons (pe_callB (bLen K) (by rfl) B.len (by decide +kernel) (pa_cons (pv 2) pa_nil)) (pa_cons (pe_op op_add (pe_callB (bLen K) (by rfl) B.len (by decide +kernel) (pa_cons (pv 2) pa_nil)) pe_int) (pa_cons (pe_op op_add (pe_callB (bLen K) (by rfl) B.len (by decide +kernel) (pa_cons (pv 2) pa_nil)) pe_int) (pa_cons (pe_op op_add (pe_op op_mulW pe_int (pe_callB (bLen K) (by rfl) B.len (by decide +kernel) (pa_cons (pv 2) pa_nil))) pe_int) pa_nil))))))) pa_nil))) pa_nil)) (pg_name (i := 6) sc__law_any_plan.nd rfl (.inl rfl))
        (pss_cons (ps_par (i := 7) (j := 8) (by rfl) sc__law_any_plan.nd rfl rfl (by decide) rfl rfl (pa_cons (pe_callC c__law_of hr gd (by rfl) (pa_cons (pv 0) (pa_cons (pv 2) pa_nil))) (pa_cons (pe_callC c__law_of hr gd (by rfl) (pa_cons (pv 0) (pa_cons (pv 2) pa_nil))) pa_nil)) (by rfl))
      (pss_one (ps_expr (pe_bm PySem.F.plainAttrs_list PySem.F.slot_list_append PySem.F.type_list_append mt_append (pv 4) (pa_cons (pe_tup (pa_cons (pv 7) (pa_cons (pv 8) (pa_cons (pe_callC c__law_shift hr gd (by rfl) (pa_cons (pv 0) (pa_cons (peDGet hu (pv 5) (pv 7) (fun _ _ => rfl)) (pa_cons (peDGet hu (pv 5) (pv 8) (fun _ _ => rfl)) pa_nil)))) pa_nil)))) pa_nil))))))
      (pss_one (ps_ret (pe_disp (pps_cons pe_str (pv 3) (pps_cons pe_str (pv 4) pps_nil)) (by rfl) (by rfl) (fun z => by cases z) (by decide)))))))), fun ws U P h => ?_⟩
  try dsimp only [cxOf, Cx.nox]
  obtain ⟨a, n, m, rfl, hP, hn, h1, hm, q⟩ := h
  have ne_a : ∀ {V : UU} {k : Nat} {c : Addr}, Pt V a k → V c = none → c ≠ a := fun hP hc z => by
    obtain ⟨_, _, _, e, _⟩ := hP
    rw [z, e] at hc
    cases hc
  walk_at "tv"
  refine ⟨a, n, m, rfl, hP, by omega, by omega, by omega, fun k V1 k0 k1 hP1 he1 => ?_⟩
  obtain ⟨k, rfl⟩ := Int.eq_ofNat_of_zero_le k0
  walk_at "tv"
  refine ⟨a, n + 1, 1 + k, by simp, hP1, by omega, by omega, fun ns V2 n1 n2 n3 hP2 he2 => ?_⟩
  walk_at "tv"
  refine ev_lc (own_name (by simp)) (iw_list ?_)
  walk_at "tv"
  refine ⟨ns.map .str, rfl, fun i acc V => ∃ ps : List (Str × Nat), acc = ps.map plD ∧ ps.map (·.1) = ns.take i ∧ (∀ p ∈ ps, 1 ≤ p.2 ∧ p.2 ≤ 3) ∧ Pt V a (n + 241 + i) ∧ Els a V2 V, ⟨[], rfl, rfl, by simp, hP2.mono (by omega), Els.refl⟩, ?_, ?_⟩
  · rintro i acc V hi hacc ⟨ps, rfl, p1, p2, p3, p4⟩
    have hi' : i < ns.length := by simpa using hi
    obtain ⟨s, hs⟩ : ∃ s, ns[i]? = some s := ⟨ns[i], by simp [hi']⟩
    show GW K _ (.d ((ns.map PyData.str).getD i .none)) _ _ _
    rw [getD_at hs]
    walk_at "tv"
    refine ⟨fun _ => ?_, fun z => nomatch z⟩
    walk_at "tv"
    refine ev_lst ?_
    walk_at "tv"
    refine ⟨([1, 1, 1, 2, 2, 3] : List Int).map .int, rfl, by show 6 ≤ sizeLine; decide, ?_⟩
    walk_at "tv"
    refine .inl ⟨a, n + 241 + i, _, rfl, p3, by omega, by simp, by show 6 < 1000000; decide, fun x V3 hx hP3 he3 => ?_⟩
    obtain ⟨y, hy, rfl⟩ := List.mem_map.mp hx
    obtain ⟨y, rfl, y1, y3⟩ := dep6 hy
    walk_at "tv"
    refine ⟨[.str s, .int (y : Int)], rfl, by show 2 ≤ sizeLine; decide, _, rfl, Nat.lt_of_le_of_lt hacc (by rw [sizeLine_eq]; omega), ps ++ [(s, y)], by rw [List.map_append]; rfl, ?_, ?_, hP3, p4.trans he3⟩
    · rw [List.map_append, p1, List.take_add_one, hs]
      rfl
    · intro p hp
      rcases List.mem_append.mp hp with z | z
      · exact p2 p z
      · rw [List.mem_singleton.mp z]
        exact ⟨y1, y3⟩
  rintro acc V _ ⟨ps, rfl, p1, p2, hP3, he3⟩
  rw [List.length_map, List.take_length] at p1
  rw [List.length_map] at hP3
  have pl : ps.length = 1 + k := by rw [← n1, ← p1, List.length_map]
  have nd : (ps.map (·.1)).Nodup := by rw [p1]; exact n3
  have nms : ∀ p ∈ ps, NameOk p.1 ∧ 1 ≤ p.2 ∧ p.2 ≤ 3 := fun p hp => ⟨(n2 p.1 (by rw [← p1]; exact List.mem_map_of_mem (f := (·.1)) hp)).a, p2 p hp⟩
  have nmx : ∀ p ∈ ps, NmX p.1 := fun p hp => (n2 p.1 (by rw [← p1]; exact List.mem_map_of_mem (f := (·.1)) hp)).b
  have heV : Els a U V := (he1.trans he2).trans he3
  clear p2 hP2 he1 he2 he3 hP1
  walk_at "tv"
  refine ev_lstM ?_
  walk_at "tv"
  refine ⟨Nat.zero_le _, fun L hL => ?_⟩
  have nLa := ne_a hP3 hL
  have hLU : U L = none := (heV L nLa).symm.trans hL
  walk_at "tv"
  rw [show ps.map plD = (plKv ps).map Tv.pairD by rw [plKv, List.map_map]; rfl]
  refine rl_dictL (kvs := plKv ps) ?_ (fun dd hdd => ?_)
  · rw [plKv, List.map_map]
    have e : (ps.map fun p => ((Sum.inr p.1 : Key))) = (ps.map (·.1)).map Sum.inr := by rw [List.map_map]; rfl
    show (ps.map fun p => ((Sum.inr p.1 : Key))).Nodup
    rw [e]
    exact List.Pairwise.map _ (fun a b z w => z (Sum.inr.inj w)) nd
  have ndL : dd ≠ L := fun z => by rw [z, put_same] at hdd; cases hdd
  have hddV : V dd = none := by rw [put_ne ndL] at hdd; exact hdd
  have nda := ne_a hP3 hddV
  have hddU : U dd = none := (heV dd nda).symm.trans hddV
  rw [show dts (plKv ps) = plK ps by rw [dts, plKv, List.map_map]; rfl, show (plKv ps).map Tv.pairD = ps.map plD by rw [plKv, List.map_map]; rfl]
  walk_at "tv"
  refine ⟨_, _, rfl, ?_⟩
  show SW K (tSeq _ _) [some (.r a), some (.i (m : Int)), some (.l (ns.map .str)), some (.l (ps.map plD)), some (.r L), some (.r dd), none, none, none, none] _ (retE P)
  refine sw_seq (sw_for (iw_rng1 ?_))
  walk_at "tv"
  refine ev_lst ?_
  walk_at "tv"
  rw [List.length_map]
  refine r2_intC (wide_mul (a := 40) (b := 40) (by decide) (by omega) (by decide) (by decide) (by decide)) ?_
  walk_at "tv"
  refine ⟨([0, 1, (ns.length : Int), (ns.length : Int) + 1, (ns.length : Int) + 2, 2 * (ns.length : Int) + 1] : List Int).map .int, rfl, by show 6 ≤ sizeLine; decide, ?_⟩
  walk_at "tv"
  have hP4 : Pt (put (put V L (.l [])) dd (.k (plK ps))) a (n + 241 + ns.length) := by
    obtain ⟨e1, e2, e3, e4, e5⟩ := hP3
    exact ⟨e1, e2, e3, by rw [put_ne nda.symm, put_ne nLa.symm]; exact e4, e5⟩
  replace hP4 := hP4.mono (m := n + 260) (by omega)
  refine .inl ⟨a, n + 260, _, rfl, hP4, by omega, by simp, by show 6 < 1000000; decide, fun x V4 hx hP5 he5 => ?_⟩
  obtain ⟨M, hM, rfl⟩ := List.mem_map.mp hx
  obtain ⟨M, rfl, hM25⟩ : ∃ k : Nat, M = (k : Int) ∧ k ≤ 2 * ns.length + 1 := by
    simp only [List.mem_cons, List.not_mem_nil, or_false] at hM
    exact ⟨M.toNat, by omega, by omega⟩
  have hMM : ((M : Int)).toNat = M := Int.toNat_natCast M
  have hnn : ns ≠ [] := fun z => by rw [z] at n1; simp at n1; omega
  walk_at "tv"
  refine ⟨(M : Int), rfl, by omega, by omega, fun i ρ V => ∃ (ls : List Ln) (x6 x7 x8 : Option W), ρ = [some (.r a), some (.i (m : Int)), some (.l (ns.map .str)), some (.l (ps.map plD)), some (.r L), some (.r dd), x6, x7, x8, none] ∧ ls.length = i ∧ (∀ l ∈ ls, LnOk ps l ∧ Lo1 l) ∧ Pt V a (n + 261 + 14 * i) ∧ V L = some (.l ((ls.map lnD).map W.d)) ∧ V dd = some (.k (plK ps)) ∧ (∀ c, c ≠ a → c ≠ L → c ≠ dd → V c = U c),
    ⟨[], none, none, none, rfl, rfl, by simp, hP5, by rw [he5 L nLa, put_ne ndL.symm, put_same]; rfl, by rw [he5 dd nda, put_same], fun c c1 c2 c3 => by rw [he5 c c1, put_ne c3, put_ne c2, heV c c1]⟩, ?_, ?_⟩
  · rintro i ρ V5 hi ⟨ls, x6, x7, x8, rfl, g1, g2, g3, g4, g5, g6⟩
    rw [hMM] at hi
    have nn : ∀ {s : Str}, PyData.str s ∈ ns.map PyData.str → ∃ d, (s, d) ∈ ps ∧ d ≤ 3 := fun {s} hs => by
      obtain ⟨t, ht, e⟩ := List.mem_map.mp hs
      cases e
      rw [← p1] at ht
      obtain ⟨p, hp, e⟩ := List.mem_map.mp ht
      subst e
      exact ⟨p.2, hp, (nms p hp).2.2⟩
    walk_at "tv"
    refine .inl ⟨a, n + 261 + 14 * i, _, rfl, g3, by omega, by simpa using hnn, by rw [List.length_map]; omega, fun x V6 hx hP6 he6 => ?_⟩
    obtain ⟨b, hb, rfl⟩ := List.mem_map.mp hx
    obtain ⟨db, m1, b3⟩ := nn hx
    walk_at "tv"
    refine .inl ⟨a, n + 261 + 14 * i + 1, _, rfl, hP6, by omega, by simpa using hnn, by rw [List.length_map]; omega, fun y V7 hy hP7 he7 => ?_⟩
    obtain ⟨e, he, rfl⟩ := List.mem_map.mp hy
    obtain ⟨de, m2, d3⟩ := nn hy
    have h67 := he6.trans he7
    have f4 : V7 L = some (.l ((ls.map lnD).map W.d)) := (h67 L nLa).trans g4
    have f5 : V7 dd = some (.k (plK ps)) := (h67 dd nda).trans g5
    walk_at "tv"
    refine ⟨_, _, rfl, ?_⟩
    show SW K (tDrop _) [some (.r a), some (.i (m : Int)), some (.l (ns.map .str)), some (.l (ps.map plD)), some (.r L), some (.r dd), some (.i (0 + (i : Nat))), some (.s b), some (.s e), none] V7 _
    walk_at "tv"
    refine ev_bm ?_
    walk_at "tv"
    refine ⟨ty_M f4, ?_⟩
    walk_at "tv"
    refine ev_dget (ev_var rfl (ev_var rfl ⟨plK ps, .inr b, _, .inl ⟨dd, rfl, f5⟩, rfl, plK_at nd m1, ?_⟩))
    walk_at "tv"
    refine ev_dget (ev_var rfl (ev_var rfl ⟨plK ps, .inr e, _, .inl ⟨dd, rfl, f5⟩, rfl, plK_at nd m2, ?_⟩))
    walk_at "tv"
    refine ⟨a, n + 261 + 14 * i + 2, db, de, rfl, hP7, by omega, by omega, fun sh V8 s1 s2 hP8 he8 => ?_⟩
    walk_at "tv"
    refine ⟨[.str b, .str e, shN sh], rfl, by show 3 ≤ sizeLine; decide, ?_⟩
    walk_at "tv"
    refine rm_append ((he8 L nLa).trans f4) (by rw [List.length_map, List.length_map, g1, sizeLine_eq]; omega) ?_
    refine ⟨ls ++ [(b, e, sh)], _, _, _, rfl, by rw [List.length_append, g1]; rfl, ?_, ?_, by rw [put_same, List.map_append, List.map_append]; rfl, by rw [put_ne ndL]; exact (he8 dd nda).trans f5, fun c c1 c2 c3 => by rw [put_ne c2, he8 c c1, h67 c c1, g6 c c1 c2 c3]⟩
    · intro l hl
      rcases List.mem_append.mp hl with z | z
      · exact g2 l z
      · rw [List.mem_singleton.mp z]
        exact ⟨⟨db, de, m1, m2, s1, fun i w h => ⟨(s2 i w h).1, fun z => ((s2 i w h).2 z).1⟩⟩, fun w hw z => by obtain ⟨i, hi⟩ := List.mem_iff_getElem?.mp hw; exact ((s2 i w hi).2 z).2⟩
    · obtain ⟨e1, e2, e3, e4, e5⟩ := hP8
      exact ⟨e1, e2, e3, by rw [put_ne nLa.symm]; exact e4, { e5 with c1 := by have := e5.c1; omega }⟩
  · rintro ρ V5 ⟨ls, x6, x7, x8, rfl, g1, g2, g3, g4, g5, g6⟩
    rw [hMM] at g1 g3
    show SW K (tRet _) _ V5 (retE P)
    refine sw_freeze (i := 4) (xs := ls.map lnD) rfl g4 ?_
    refine sw_ret (ev_less (ev_disp2 fun d hd => ?_))
    have ndA : d ≠ a := fun z => by
      obtain ⟨_, _, _, e, _⟩ := g3
      rw [z, cut_ne nLa.symm, e] at hd
      cases hd
    walk_at "tv"
    refine ⟨.inr (Str.ofString "places"), .inr (Str.ofString "lines"), rfl, rfl, fun z => ne_pl (Sum.inr.inj z).symm, put_same, ?_⟩
    rw [put_put]
    have hUd : d = L ∨ d = dd ∨ U d = none := by
      by_cases z1 : d = L
      · exact .inl z1
      · by_cases z2 : d = dd
        · exact .inr (.inl z2)
        · rw [cut_ne z1, g6 d ndA z1 z2] at hd
          exact .inr (.inr hd)
    have hUd2 : U d = none := by
      rcases hUd with z | z | z
      · rw [z]; exact hLU
      · rw [z]; exact hddU
      · exact z
    refine ⟨put (fun c => if c = a then V5 a else U c) d (.k (ownK ps ls)), fun c b z => ?_, ?_⟩
    · by_cases z1 : c = d
      · subst z1
        rw [put_same] at z ⊢
        exact z
      · rw [put_ne z1] at z ⊢
        by_cases z2 : c = a
        · subst z2
          rw [if_pos rfl] at z
          rw [cut_ne nLa.symm]
          exact z
        · rw [if_neg z2] at z
          have c1 : c ≠ L := fun y => by rw [y, hLU] at z; cases z
          have c2 : c ≠ dd := fun y => by rw [y, hddU] at z; cases z
          rw [cut_ne c1, g6 c z2 c1 c2]
          exact z
    · refine q d ps ls _ ndA (fun k hk => ⟨by omega, by omega, nms, nd, by rw [List.length_take]; omega, fun l hl => (g2 l (List.mem_of_mem_take hl)).1⟩) nmx (fun l hl => (g2 l hl).2) (by omega) (by omega) ?_ put_same hUd2 (fun c c1 c2 => by rw [put_ne c2, if_neg c1])
      obtain ⟨e1, e2, e3, e4, e5⟩ := g3
      exact ⟨e1, e2, e3, by rw [put_ne ndA.symm, if_pos rfl]; exact e4, { e5 with c1 := by have := e5.c1; omega }⟩
theorem cal__law_plan (B : Bi mg) (T : At K mg s__law_plan "_law_plan") (c__law_tables : Cal Pg w K mg base s__law_tables "_law_tables" 2 ["own", "place", "most"] (p_tables K)) (c__law_standings : Cal Pg w K mg base s__law_standings "_law_standings" 2 ["own", "place"] (p_standings K)) (c__law_any_plan : Cal Pg w K mg base s__law_any_plan "_law_any_plan" 4 ["pot", "most"] (p_any_plan21 K))   : Cal Pg w K mg base s__law_plan "_law_plan" 5 ["pot", "most"] (p_plan21 K) := by
  refine calW T sc__law_plan (fun _ _ _ _ _ _ us hl => match us, hl with | [_, _], _ => rfl) (by rintro ws U P ⟨a, n, m, rfl, _⟩; rfl) (fun f cdv A outer s H E hr gd => ?_)
  have hu : (A.deeper (envOfC "_law_plan" (defScope s__law_plan) s.heap.objs.size f cdv)).units + 70 < cLine := by have := hr.un; omega
  refine ⟨_, (pss_cons (ps_set (i := 2) sc__law_plan.nd rfl (.inr rfl) (pe_callC c__law_any_plan hr gd (by rfl) (pa_cons (pv 0) (pa_cons (pv 1) pa_nil))))
      (pss_cons (ps_set (i := 3) sc__law_plan.nd rfl (.inl rfl) (pe_lst pa_nil))
      (pss_cons (ps_for PassesOwn.never rfl (piL K (peDGet hu (pv 2) pe_str (fun _ _ => rfl))) (pgT K (n := 3) rfl (pgs_cons (pg_name (i := 4) sc__law_plan.nd rfl (.inl rfl)) (pgs_cons (pg_name (i := 5) sc__law_plan.nd rfl (.inl rfl)) (pgs_cons (pg_name (i := 6) sc__law_plan.nd rfl (.inl rfl)) pgs_nil))))
        (pss_one (ps_for PassesOwn.never rfl (piT K (pe_tup (pa_cons pe_int (pa_cons pe_int pa_nil)))) (pg_name (i := 7) sc__law_plan.nd rfl (.inr rfl))
        (pss_cons (ps_set (i := 8) sc__law_plan.nd rfl (.inl rfl) (pe_callTy (bTup K) (by rfl) B.tuple (by decide +kernel) (pa_cons (pe_lc (own := [("word", 12), ("many", 13)]) rfl sc__law_plan.nd (piT K (pv 6)) (blkOk_by (N := N__law_plan) (sc := defScope s__law_plan) (by decide +kernel)) (fun _ _ _ _ _ => (pgT K (n := 2) rfl (pgs_cons (pg_name (i := 12) sc__law_plan.nd rfl (.inl rfl)) (pgs_cons (pg_name (i := 13) sc__law_plan.nd rfl (.inl rfl)) pgs_nil)))) (fun _ _ _ _ _ => pts_nil) (fun _ _ _ _ _ => (pe_tup (pa_cons (pv 12) (pa_cons (pe_ifExp (pt_cmpR op_eq (pv 12) pe_str (nomark _)) (pe_op op_add (pv 13) (pv 7)) (pv 13)) pa_nil))))) pa_nil)))
      (pss_cons (ps_set (i := 9) sc__law_plan.nd rfl (.inl rfl) (pe_disp (pps_cons pe_str (peDGet hu (pv 2) pe_str (fun _ _ => rfl)) (pps_cons pe_str (pe_op (opCatL K) (pv 3) (pe_lst (pa_cons (pe_tup (pa_cons (pv 4) (pa_cons (pv 5) (pa_cons (pv 8) pa_nil)))) pa_nil))) pps_nil)) (by rfl) (by rfl) (fun z => by cases z) (by decide)))
      (pss_one (ps_if (pt_val (pe_callB (bAll K rfl) (by rfl) B.all (by decide +kernel) (pa_cons (pe_lc (own := [("standing", 14)]) rfl sc__law_plan.nd (piL K (pe_callC c__law_standings hr gd (by rfl) (pa_cons (pv 9) (pa_cons (pv 4) pa_nil)))) (blkOk_by (N := N__law_plan) (sc := defScope s__law_plan) (by decide +kernel)) (fun _ _ _ _ _ => (pg_name (i := 14) sc__law_plan.nd rfl (.inl rfl))) (fun _ _ _ _ _ => pts_nil) (fun _ _ _ _ _ => (pe_cmpR (opIn K) pe_int (pv 14) (by rfl)))) pa_nil)))
        (pss_cons (ps_set (i := 3) sc__law_plan.nd rfl (.inl rfl) (peDGet hu (pv 9) pe_str (fun _ _ => rfl)))
      (pss_one ps_break))
        pss_nil)))))))
      (pss_cons (ps_set (i := 2) sc__law_plan.nd rfl (.inr rfl) (pe_disp (pps_cons pe_str (peDGet hu (pv 2) pe_str (fun _ _ => rfl)) (pps_cons pe_str (pv 3) pps_nil)) (by rfl) (by rfl) (fun z => by cases z) (by decide)))
      (pss_cons (ps_if (pt_val (pe_callB (bAny K rfl) (by rfl) B.any (by decide +kernel) (pa_cons (pe_lc (own := [("name", 10), ("depth", 11)]) rfl sc__law_plan.nd (piL K (peDGet hu (pv 2) pe_str (fun _ _ => rfl))) (blkOk_by (N := N__law_plan) (sc := defScope s__law_plan) (by decide +kernel)) (fun _ _ _ _ _ => (pgT K (n := 2) rfl (pgs_cons (pg_name (i := 10) sc__law_plan.nd rfl (.inl rfl)) (pgs_cons (pg_name (i := 11) sc__law_plan.nd rfl (.inl rfl)) pgs_nil)))) (fun _ _ _ _ _ => pts_nil) (fun _ _ _ _ _ => (pe_cmpR opIsN (pe_callC c__law_tables hr gd (by rfl) (pa_cons (pv 2) (pa_cons (pv 10) (pa_cons pe_int pa_nil)))) pe_non (nomark _)))) pa_nil)))
        (pss_one (ps_set (i := 2) sc__law_plan.nd rfl (.inr rfl) (pe_disp (pps_cons pe_str (peDGet hu (pv 2) pe_str (fun _ _ => rfl)) (pps_cons pe_str (pe_lst pa_nil) pps_nil)) (by rfl) (by rfl) (fun z => by cases z) (by decide))))
        pss_nil)
      (pss_one (ps_ret (pv 2)))))))), fun ws U P h => ?_⟩
  try dsimp only [cxOf, Cx.nox]
  obtain ⟨a, n, m, rfl, hP, hn, m1, m6, q⟩ := h
  walk_at "tv"
  refine ⟨a, n, m, rfl, hP, by omega, by omega, by omega, fun d ps ls U1 nda okt nmx lo pm lsm hP1 hd1 hUd hE1 => ?_⟩
  walk_at "tv"
  have ok : OwnOk ps ls := by
    have := okt 24 (Nat.le_refl _)
    rwa [List.take_of_length_le (by omega)] at this
  refine ev_lst (ev_nil ⟨[], rfl, (show 0 ≤ sizeLine by decide), ?_⟩)
  walk_at "tv"
  refine sw_for (iw_list (ev_dget (ev_var rfl (ev_str ⟨ownK ps ls, .inr "lines", _, .inl ⟨d, rfl, hd1⟩, rfl, ownK_lines, ?_⟩))))
  refine ⟨_, rfl, fun i ρ V => ∃ (ls2 : List Ln) (x4 x5 x6 x7 x8 x9 : Option W), ρ = [some (.r a), some (.i (m : Int)), some (.r d), some (.l (ls2.map lnD)), x4, x5, x6, x7, x8, x9, none, none, none, none, none] ∧ ls2.length ≤ i ∧ OwnOk ps ls2 ∧ TB.Snd ls2 ∧ (∀ c b, U1 c = some b → V c = some b),
    ⟨[], none, none, none, none, none, none, rfl, Nat.le_refl _, own_none ok, TB.Snd.nil, fun c b h => h⟩, ?_, ?_⟩
  · rintro i ρ V hi ⟨ls2, x4, x5, x6, x7, x8, x9, rfl, hlen, ok2, sn2, hup⟩
    have hil : i < ls.length := by simpa using hi
    have hy : ls[i]? = some ls[i] := List.getElem?_eq_getElem hil
    generalize ls[i] = y at hy
    have ymem := List.mem_of_getElem? hy
    have ylo := lo y ymem
    have yok : LnOk ps y := ok.lns y ymem
    show GW K _ (.d ((ls.map lnD).getD i .none)) _ _ _
    rw [getD_at hy]
    refine gw_three ?_
    walk_at "tv"
    refine sw_for (iw_tup (ev_tup (ev_cons (ev_int (ev_cons (ev_int (ev_nil ⟨[.int 0, .int 1], rfl, (show 2 ≤ sizeLine by decide), ?_⟩)))))))
    refine ⟨_, rfl, fun j ρ V2 => ∃ (x7 x8 x9 : Option W), ρ = [some (.r a), some (.i (m : Int)), some (.r d), some (.l (ls2.map lnD)), some (.s y.1), some (.s y.2.1), some (.d (shN y.2.2)), x7, x8, x9, none, none, none, none, none] ∧ (∀ c b, U1 c = some b → V2 c = some b),
      ⟨x7, x8, x9, rfl, hup⟩, ?_, ?_⟩
    · rintro j ρ V2 hj ⟨x7, x8, x9, rfl, hup2⟩
      have hj2 : j < 2 := hj
      have ej : ([PyData.int 0, PyData.int 1] : List PyData).getD j .none = .int (j : Int) := by
        rcases (show j = 0 ∨ j = 1 by omega) with rfl | rfl <;> rfl
      show GW K _ (.d (([PyData.int 0, PyData.int 1] : List PyData).getD j .none)) _ _ _
      rw [ej]
      have uok := up_ok (more := j) (by omega) yok ylo
      have y3 : y.2.2.length ≤ 3 := by
        obtain ⟨db, de, _, b2, c2, _⟩ := yok
        rw [c2]
        exact (ok.nms _ b2).2.2
      refine gw_name ?_
      refine sw_seq (sw_asg (ev_cb (ev_cons ?_)))
      refine ev_lcT (xs := y.2.2) (h := wdN) (f := fun w => wdN (upW w j)) (own_tup (owns_cons gname_mono (own_name (by simp)) (owns_cons gname_mono (own_name (by simp)) owns_nil))) ?_
      refine ev_var rfl ⟨rfl, by rw [sizeLine_eq]; omega, fun k w hw => ?_, ?_⟩
      · unfold Turn1
        refine gw_pair ?_
        walk_at "tv"
        refine ⟨rfl, ?_⟩
        walk_at "tv"
        rw [sign_eqp]
        refine ⟨w.1, rfl, fun h1 => ?_, fun h0 => ?_⟩
        · walk_at "tv"
          refine ⟨[.str (sign w.1), .int ((w.2 : Int) + (j : Int))], rfl, (show 2 ≤ sizeLine by decide), ?_, rfl⟩
          rw [upW, wdN, if_pos h1]
          simp
        · walk_at "tv"
          refine ⟨[.str (sign w.1), .int (w.2 : Int)], rfl, (show 2 ≤ sizeLine by decide), ?_, rfl⟩
          rw [upW, wdN, h0]
          rfl
      refine ev_nil (rl_tupL (gw_name ?_))
      refine sw_seq (sw_asg (ev_disp2 fun p hp => ?_))
      have pd : p ≠ d := fun z => by rw [z, hup2 d _ hd1] at hp; cases hp
      refine ev_str (ev_dget (ev_var rfl (ev_str ⟨ownK ps ls, .inr "places", _, .inl ⟨d, rfl, by rw [put_ne pd.symm]; exact hup2 _ _ hd1⟩, rfl, ownK_places, ?_⟩)))
      refine ev_str (ev_op (ev_var rfl (ev_lst (ev_cons (ev_tup (ev_cons (ev_var rfl (ev_cons (ev_var rfl (ev_cons (ev_var rfl (ev_nil ⟨[.str y.1, .str y.2.1, .tuple (y.2.2.map fun w => wdN (upW w j))], rfl, (show 3 ≤ sizeLine by decide), ev_nil ⟨[.tuple [.str y.1, .str y.2.1, .tuple (y.2.2.map fun w => wdN (upW w j))]], rfl, (show 1 ≤ sizeLine by decide), ?_⟩⟩))))))))))))
      have l24 : ls2.length < 24 := by omega
      refine r2_catL (by rw [List.length_map, List.length_singleton, sizeLine_eq]; omega) ⟨.inr "places", .inr "lines", rfl, rfl, by decide, put_same, gw_name ?_⟩
      rw [put_put, show ls2.map lnD ++ [PyData.tuple [.str y.1, .str y.2.1, .tuple (y.2.2.map fun w => wdN (upW w j))]] = (ls2 ++ [upL y j]).map lnD by rw [List.map_append, List.map_singleton, lnD, upL, shN, List.map_map]; rfl]
      generalize hV3 : put V2 p (.k [(.inr "places", .l (ps.map fun p => .tuple [.str p.1, .int (p.2 : Int)])), (.inr "lines", .l ((ls2 ++ [upL y j]).map lnD))]) = V3
      have h3p : V3 p = some (.k (ownK ps (ls2 ++ [upL y j]))) := by rw [← hV3, put_same]; rfl
      have hup3 : ∀ c b, U1 c = some b → V3 c = some b := fun c b h => by
        rw [← hV3, put_ne (fun z => by rw [← z, hup2 c b h] at hp; cases hp)]
        exact hup2 c b h
      have ok3 := own_more ok2 uok l24
      obtain ⟨db, de, mb, _⟩ := uok
      refine sw_if (et_b (ev_cb (ev_cons ?_)))
      refine ev_lc (own_name (by simp)) (iw_list (ev_call (ev_cons (ev_var rfl (ev_cons (ev_var rfl (ev_nil ⟨.r p, ps, ls2 ++ [upL y j], y.1, db, rfl, .inl ⟨p, rfl, h3p⟩, ok3, mb, fun rs hrs hr480 => ?_⟩)))))))
      refine ⟨_, rfl, fun k acc V4 => V4 = V3 ∧ acc = (rs.take k).map fun s => .bool (decide (1 ∈ s)), ⟨rfl, rfl⟩, ?_, ?_⟩
      · rintro k acc V4 hk hal ⟨rfl, rfl⟩
        have hkl : k < rs.length := by simpa using hk
        have hs : rs[k]? = some rs[k] := List.getElem?_eq_getElem hkl
        generalize rs[k] = s2 at hs
        show GW K _ (.d ((rs.map nts).getD k .none)) _ _ _
        rw [getD_at hs]
        walk_at "tv"
        refine ⟨fun _ => ?_, fun z => nomatch z⟩
        walk_at "tv"
        refine r2_inD (k0 := 1) (ns := s2.map fun n : Nat => (n : Int)) (.inl (by rw [List.map_map]; rfl)) ?_
        refine ⟨_, rfl, by rw [sizeLine_eq]; omega, rfl, ?_⟩
        rw [List.take_add_one, hs, List.map_append]
        congr 1
        show [PyData.bool (decide ((1 : Int) ∈ s2.map fun n : Nat => (n : Int)))] = [PyData.bool (decide (1 ∈ s2))]
        rw [decide_eq_decide.mpr (one_int s2)]
      · rintro acc V4 hal ⟨rfl, rfl⟩
        rw [List.length_map, List.take_length]
        walk_at "tv"
        refine rl_allM ?_
        refine ⟨_, rfl, fun all1 => ?_, fun _ => ?_⟩
        · refine sw_seq (sw_asg (ev_dget (ev_var rfl (ev_str ⟨_, .inr "lines", _, .inl ⟨p, rfl, h3p⟩, rfl, ownK_lines, gw_name ?_⟩))))
          refine sw_break ?_
          exact ⟨ls2 ++ [upL y j], _, _, _, _, _, _, rfl, by rw [List.length_append, List.length_singleton]; omega, ok3, snd_more ok3 sn2 hrs all1, hup3⟩
        · exact sw_next ⟨_, _, _, rfl, hup3⟩
    · rintro ρ V2 ⟨x7, x8, x9, rfl, hup2⟩
      exact ⟨ls2, _, _, _, _, _, _, rfl, by omega, ok2, sn2, hup2⟩
  · rintro ρ V ⟨ls2, x4, x5, x6, x7, x8, x9, rfl, hlen, ok2, sn2, hup⟩
    rw [List.length_map] at hlen
    have low : ∀ c b, U c = some b → c ≠ a → U1 c = some b := fun c b h ne => by
      rw [hE1 c ne (fun z => by rw [z, hUd] at h; cases h)]
      exact h
    have fin : ∀ (d2 : Addr) (ls3 : List Ln) (V2 : UU), OwnOk ps ls3 → TB.Snd ls3 → ls3.length ≤ ls.length → (∀ c b, U1 c = some b → V2 c = some b) → V2 d2 = some (.k (ownK ps ls3)) → U1 d2 = none → ∃ U', (∀ c b, U' c = some b → V2 c = some b) ∧ P (.r d2) U' := fun d2 ls3 V2 ok3 sn3 l3 hup2 hd2 un => by
      have d2a : d2 ≠ a := fun z => by
        obtain ⟨_, _, _, e, _⟩ := hP1
        rw [z, e] at un
        cases un
      have und : U d2 = none := by
        cases z : U d2 with
        | none => rfl
        | some b => rw [low d2 b z d2a] at un; cases un
      refine ⟨put (fun c => if c = a then U1 a else U c) d2 (.k (ownK ps ls3)), fun c b h => ?_, q d2 ps ls3 _ d2a ok3 nmx sn3 pm (by omega) ?_ put_same und fun c c1 c2 => by rw [put_ne c2, if_neg c1]⟩
      · by_cases z : c = d2
        · rw [z, put_same] at h
          rw [z, hd2, h]
        · rw [put_ne z] at h
          by_cases y : c = a
          · rw [if_pos y] at h
            rw [y]
            exact hup2 a b h
          · rw [if_neg y] at h
            exact hup2 c b (low c b h y)
      · obtain ⟨u, v, c, e1, e2⟩ := hP1
        exact ⟨u, v, c, by rw [put_ne d2a.symm, if_pos rfl]; exact e1, e2⟩
    refine sw_seq (sw_asg (ev_disp2 fun p hp => ?_))
    have pd : p ≠ d := fun z => by rw [z, hup d _ hd1] at hp; cases hp
    refine ev_str (ev_dget (ev_var rfl (ev_str ⟨ownK ps ls, .inr "places", _, .inl ⟨d, rfl, by rw [put_ne pd.symm]; exact hup _ _ hd1⟩, rfl, ownK_places, ?_⟩)))
    refine ev_str (ev_var rfl ⟨.inr "places", .inr "lines", rfl, rfl, by decide, put_same, gw_name ?_⟩)
    rw [put_put]
    generalize hV3 : put V p (.k [(.inr "places", .l (ps.map fun p => .tuple [.str p.1, .int (p.2 : Int)])), (.inr "lines", .l (ls2.map lnD))]) = V3
    have h3p : V3 p = some (.k (ownK ps ls2)) := by rw [← hV3, put_same]; rfl
    have hup3 : ∀ c b, U1 c = some b → V3 c = some b := fun c b h => by
      rw [← hV3, put_ne (fun z => by rw [← z, hup c b h] at hp; cases hp)]
      exact hup c b h
    have unp : U1 p = none := by
      cases z : U1 p with
      | none => rfl
      | some b => rw [hup p b z] at hp; cases hp
    have ln13 : ls2.length ≤ 13 := by omega
    refine sw_seq (sw_if (et_b (ev_cb (ev_cons ?_))))
    refine ev_lc (own_tup (owns_cons gname_mono (own_name (by simp)) (owns_cons gname_mono (own_name (by simp)) owns_nil))) (iw_list (ev_dget (ev_var rfl (ev_str ⟨ownK ps ls2, .inr "places", _, .inl ⟨p, rfl, h3p⟩, rfl, ownK_places, ?_⟩))))
    refine ⟨_, rfl, fun k acc V4 => (∃ bs : List Bool, acc = bs.map .bool) ∧ ∀ c b, V3 c = some b → V4 c = some b, ⟨⟨[], rfl⟩, fun c b h => h⟩, ?_, ?_⟩
    · rintro k acc V4 hk hal ⟨⟨bs, rfl⟩, hup4⟩
      have hkl : k < ps.length := by simpa using hk
      have hy : ps[k]? = some ps[k] := List.getElem?_eq_getElem hkl
      generalize ps[k] = y at hy
      show GW K _ (.d ((ps.map fun p => PyData.tuple [.str p.1, .int (p.2 : Int)]).getD k .none)) _ _ _
      rw [getD_at hy]
      refine gw_pair ?_
      walk_at "tv"
      refine ⟨fun _ => ?_, fun z => nomatch z⟩
      walk_at "tv"
      have few := ok.few
      refine ⟨.r p, ps, ls2, y.1, y.2, rfl, .inl ⟨p, rfl, hup4 _ _ h3p⟩, ok2, sn2, by omega, ln13, List.mem_of_getElem? hy, ?_, fun a2 kvs ha2 => ?_⟩
      · walk_at "tv"
        refine r2_isN ?_
        exact ⟨_, rfl, by rw [sizeLine_eq]; omega, ⟨bs ++ [true], by rw [List.map_append]; rfl⟩, hup4⟩
      · walk_at "tv"
        refine r2_isNr ?_
        exact ⟨_, rfl, by rw [sizeLine_eq]; omega, ⟨bs ++ [false], by rw [List.map_append]; rfl⟩, fun c b h => by
          rw [put_ne (fun z => by rw [← z, hup4 c b h] at ha2; cases ha2)]
          exact hup4 c b h⟩
    · rintro acc V4 hal ⟨⟨bs, rfl⟩, hup4⟩
      walk_at "tv"
      refine rl_any ?_
      refine ⟨_, rfl, fun _ => ?_, fun _ => ?_⟩
      · refine sw_asg (ev_disp2 fun p2 hp2 => ?_)
        have p2p : p2 ≠ p := fun z => by rw [z, hup4 p _ h3p] at hp2; cases hp2
        refine ev_str (ev_dget (ev_var rfl (ev_str ⟨ownK ps ls2, .inr "places", _, .inl ⟨p, rfl, by rw [put_ne p2p.symm]; exact hup4 _ _ h3p⟩, rfl, ownK_places, ?_⟩)))
        refine ev_str (ev_lst (ev_nil ⟨[], rfl, (show 0 ≤ sizeLine by decide), ⟨.inr "places", .inr "lines", rfl, rfl, by decide, put_same, gw_name ?_⟩⟩))
        rw [put_put]
        refine sw_ret (ev_less (ev_var rfl ?_))
        refine fin p2 [] _ (own_none ok) TB.Snd.nil (Nat.zero_le _) (fun c b h => ?_) put_same ?_
        · rw [put_ne (fun z => by rw [← z, hup4 c b (hup3 c b h)] at hp2; cases hp2)]
          exact hup4 c b (hup3 c b h)
        · cases z : U1 p2 with
          | none => rfl
          | some b => rw [hup4 p2 b (hup3 p2 b z)] at hp2; cases hp2
      · refine sw_next ?_
        refine sw_ret (ev_less (ev_var rfl ?_))
        exact fin p ls2 _ ok2 sn2 hlen (fun c b h => hup4 c b (hup3 c b h)) (hup4 _ _ h3p) unp
theorem cal__law_plan_text (B : Bi mg) (T : At K mg s__law_plan_text "_law_plan_text")    : Cal Pg w K mg base s__law_plan_text "_law_plan_text" 1 ["own"] (p_plan_text K) := by
  refine calW T sc__law_plan_text (fun _ _ _ _ _ _ us hl => match us, hl with | [_], _ => rfl) (by rintro ws U P ⟨x, ps, ls, rfl, _⟩; rfl) (fun f cdv A outer s H E hr gd => ?_)
  have hu : (A.deeper (envOfC "_law_plan_text" (defScope s__law_plan_text) s.heap.objs.size f cdv)).units + 70 < cLine := by have := hr.un; omega
  refine ⟨_, (pss_cons (ps_setLc (i := 1) (own := [("name", 5), ("depth", 6)]) rfl sc__law_plan_text.nd rfl rfl (sw_true rfl rfl rfl (by decide +kernel)) (piL K (peDGet hu (pv 0) pe_str (fun _ _ => rfl))) (blkOk_by (N := N__law_plan_text) (sc := defScope s__law_plan_text) (by decide +kernel)) (fun _ _ _ _ _ => (pgT K (n := 2) rfl (pgs_cons (pg_name (i := 5) sc__law_plan_text.nd rfl (.inl rfl)) (pgs_cons (pg_name (i := 6) sc__law_plan_text.nd rfl (.inl rfl)) pgs_nil)))) (fun _ _ _ _ _ => pts_nil) (fun _ _ _ _ _ => (peJoin K pe_str (pe_lst (pa_cons pe_str (pa_cons (pv 5) (pa_cons (pe_callTy bStrI (by rfl) B.str (by decide +kernel) (pa_cons (pe_callTy b_int (by rfl) B.int (by decide +kernel) (pa_cons (pv 6) pa_nil)) pa_nil)) pa_nil)))))))
      (pss_cons (ps_for PassesOwn.never rfl (piL K (peDGet hu (pv 0) pe_str (fun _ _ => rfl))) (pgT K (n := 3) rfl (pgs_cons (pg_name (i := 2) sc__law_plan_text.nd rfl (.inl rfl)) (pgs_cons (pg_name (i := 3) sc__law_plan_text.nd rfl (.inl rfl)) (pgs_cons (pg_name (i := 4) sc__law_plan_text.nd rfl (.inl rfl)) pgs_nil))))
        (pss_one (ps_expr (pe_bm PySem.F.plainAttrs_list PySem.F.slot_list_append PySem.F.type_list_append mt_append (pv 1) (pa_cons (peJoin K pe_str (pe_op (opCatL K) (pe_lst (pa_cons pe_str (pa_cons (pv 2) (pa_cons (pv 3) pa_nil)))) (pe_lc (own := [("word", 7), ("many", 8)]) rfl sc__law_plan_text.nd (piT K (pv 4)) (blkOk_by (N := N__law_plan_text) (sc := defScope s__law_plan_text) (by decide +kernel)) (fun _ _ _ _ _ => (pgT K (n := 2) rfl (pgs_cons (pg_name (i := 7) sc__law_plan_text.nd rfl (.inl rfl)) (pgs_cons (pg_name (i := 8) sc__law_plan_text.nd rfl (.inl rfl)) pgs_nil)))) (fun _ _ _ _ _ => pts_nil) (fun _ _ _ _ _ => (pe_op opAddS (pv 7) (pe_callTy bStrI (by rfl) B.str (by decide +kernel) (pa_cons (pe_callTy b_int (by rfl) B.int (by decide +kernel) (pa_cons (pv 8) pa_nil)) pa_nil))))))) pa_nil)))))
      (pss_one (ps_ret (peJoin K pe_str (pv 1)))))), fun ws U P h => ?_⟩
  try dsimp only [cxOf, Cx.nox]
  obtain ⟨x, ps, ls, rfl, hd, ok, q⟩ := h
  have few := ok.few
  have lf := ok.lf
  refine sw_seq (sw_asg ?_)
  refine ev_lcM (own_tup (owns_cons gname_mono (own_name (by simp)) (owns_cons gname_mono (own_name (by simp)) owns_nil))) (iw_list (ev_dget (ev_var rfl (ev_str ⟨ownK ps ls, .inr "places", _, hd, rfl, ownK_places, ?_⟩))))
  refine ⟨_, rfl, fun i acc V => V = U ∧ acc = ((ps.take i).map prow).map fun r => .str (Txt.join (Str.ofString " ") r), ⟨rfl, rfl⟩, ?_, by rw [List.length_map, sizeLine_eq]; omega, ?_⟩
  · rintro i acc V hi hl ⟨rfl, rfl⟩
    have hib : i < ps.length := by simpa using hi
    obtain ⟨p, hpi⟩ : ∃ p, ps[i]? = some p := ⟨ps[i], by simp [hib]⟩
    show GW K _ (.d ((ps.map fun p => PyData.tuple [.str p.1, .int (p.2 : Int)]).getD i .none)) _ _ _
    rw [getD_at hpi]
    refine gw_pair ?_
    walk_at "tv"
    refine ⟨fun _ => ?_, fun z => nomatch z⟩
    refine ev_m1 (ev_str ⟨_, rfl, ?_⟩)
    have hmem : prow p ∈ rows ps ls := List.mem_append_left _ (List.mem_map_of_mem (List.mem_of_getElem? hpi))
    have n3 := (ok.nms p (List.mem_of_getElem? hpi)).2.2
    refine ev_lst ?_
    walk_at "tv"
    refine rl_strI (log_of n3) ?_
    walk_at "tv"
    refine ⟨(prow p).map .str, rfl, by show 3 ≤ sizeLine; decide, ?_⟩
    refine rm_join (ys := prow p) (.inr rfl) (row_sum ok hmem) ?_
    refine ⟨_, rfl, ?_, rfl, ?_⟩
    · rw [List.length_map, List.length_map, List.length_take, sizeLine_eq]
      omega
    · rw [List.take_add_one, hpi]
      show _ = (((ps.take i ++ [p]).map prow).map fun r => PyData.str (Txt.join (Str.ofString " ") r))
      rw [List.map_append, List.map_append]
      rfl
  rintro acc V D hD _ ⟨rfl, rfl⟩
  rw [List.length_map, List.take_length]
  refine gw_name ?_
  show SW K (tSeq _ _) _ _ (retE P)
  refine sw_seq (sw_for (iw_list (ev_dget (ev_var rfl (ev_str ⟨ownK ps ls, .inr "lines", _, dk_of hd (fun c b z => by rw [put_ne (fun y => by rw [y, hD] at z; cases z)]; exact z), rfl, ownK_lines, ?_⟩)))))
  refine ⟨_, rfl, fun i ρ V2 => ∃ x2 x3 x4 x5 x6 x7 x8, ρ = [some x, some (.r D), x2, x3, x4, x5, x6, x7, x8] ∧ V2 D = some (.l ((((ps.map prow ++ (ls.take i).map lrow).map J).map PyData.str).map W.d)) ∧ (∀ c, c ≠ D → V2 c = V c), ⟨none, none, none, none, none, none, none, rfl, ?_, fun c hc => put_ne hc⟩, ?_, ?_⟩
  · rw [put_same, List.take_zero, List.map_nil, List.append_nil, show ((ps.map prow).map J).map PyData.str = (ps.map prow).map fun r => PyData.str (J r) by rw [List.map_map]; rfl]
  · rintro i ρ V2 hi ⟨x2, x3, x4, x5, x6, x7, x8, rfl, h1, h2⟩
    have hib : i < ls.length := by simpa using hi
    obtain ⟨l, hli⟩ : ∃ l, ls[i]? = some l := ⟨ls[i], by simp [hib]⟩
    have lm := List.mem_of_getElem? hli
    have hmem : lrow l ∈ rows ps ls := List.mem_append_right _ (List.mem_map_of_mem lm)
    obtain ⟨db, de, m1, m2, m3, m4⟩ := ok.lns l lm
    have d3 : de ≤ 3 := (ok.nms _ m2).2.2
    show GW K _ (.d ((ls.map lnD).getD i .none)) _ _ _
    rw [getD_at hli]
    refine gw_tup (xs := [.str l.1, .str l.2.1, shN l.2.2]) rfl ?_
    show GsW K _ [.s l.1, .s l.2.1, .d (shN l.2.2)] _ _ _
    walk_at "tv"
    refine ev_bm ?_
    walk_at "tv"
    refine ⟨ty_M h1, ?_⟩
    walk_at "tv"
    refine ev_m1 (ev_str ⟨_, rfl, ?_⟩)
    refine ev_op (ev_lst ?_)
    walk_at "tv"
    refine ⟨[.str "line", .str l.1, .str l.2.1], rfl, by show 3 ≤ sizeLine; decide, ?_⟩
    refine ev_lcT (xs := l.2.2) (h := fun w => .tuple [.str (sign w.1), .int (w.2 : Int)]) (f := fun w => .str (wtext w)) (own_tup (owns_cons gname_mono (own_name (by simp)) (owns_cons gname_mono (own_name (by simp)) owns_nil))) ?_
    walk_at "tv"
    refine ⟨rfl, small1000 (by omega), fun j w hw => ?_, ?_⟩
    · have hw3 := (m4 j w hw).1
      unfold Turn1
      refine gw_pair ?_
      walk_at "tv"
      refine ⟨rfl, ?_⟩
      walk_at "tv"
      refine rl_strI (log_of hw3) ?_
      refine r2_addS ?_ ?_
      · have a := (num_ok hw3).hi
        have b : (sign w.1).length = 1 := by cases w.1 <;> decide +kernel
        rw [b, sizeLine_eq]
        omega
      · exact ⟨rfl, rfl⟩
    refine r2_catL (by simp only [List.length_cons, List.length_nil, List.length_map]; rw [sizeLine_eq]; omega) ?_
    rw [show ([PyData.str "line", .str l.1, .str l.2.1] ++ l.2.2.map fun w => PyData.str (wtext w)) = (lrow l).map PyData.str by
      show PyData.str "line" :: .str l.1 :: .str l.2.1 :: (l.2.2.map fun w => PyData.str (wtext w)) = PyData.str "line" :: .str l.1 :: .str l.2.1 :: (l.2.2.map wtext).map PyData.str
      rw [List.map_map]
      rfl]
    refine rm_join (ys := lrow l) (.inr rfl) (row_sum ok hmem) ?_
    walk_at "tv"
    refine rm_append h1 (by simp only [List.length_map, List.length_append, List.length_take]; rw [sizeLine_eq]; omega) ?_
    refine ⟨_, _, _, _, _, _, _, rfl, ?_, fun c hc => by rw [put_ne hc]; exact h2 c hc⟩
    rw [put_same, List.take_add_one, hli]
    show _ = some (Bx.l ((((ps.map prow ++ (ls.take i ++ [l]).map lrow).map J).map PyData.str).map W.d))
    simp only [List.map_append, List.append_assoc]
    rfl
  · rintro ρ V2 ⟨x2, x3, x4, x5, x6, x7, x8, rfl, h1, h2⟩
    rw [List.length_map, List.take_length] at h1
    show SW K (tRet _) _ V2 (retE P)
    refine sw_ret (ev_less (ev_m1 (ev_str ⟨_, rfl, ev_var rfl ?_⟩)))
    refine rm_joinM (ys := (rows ps ls).map J) h1 ?_ ⟨V, fun c b z => ?_, q⟩
    · have a := sum_le (B := 126) (r := (rows ps ls).map J) fun w hw => by
        obtain ⟨r, hr, rfl⟩ := List.mem_map.mp hw
        exact (row_text ok hr).2
      have e : (Str.ofString "
").length = 1 := by decide +kernel
      have n : ((rows ps ls).map J).length ≤ 36 := by
        rw [List.length_map, rows, List.length_append, List.length_map, List.length_map]
        omega
      have b : 126 * ((rows ps ls).map J).length ≤ 126 * 36 := Nat.mul_le_mul (by decide) n
      rw [e]
      omega
    · rw [h2 c (fun y => by rw [y, hD] at z; cases z)]
      exact z
theorem cal__law_time (B : Bi mg) (T : At K mg s__law_time "_law_time") (c__law_take : Cal Pg w K mg base s__law_take "_law_take" 1 ["pot", "upto"] pTake)   : Cal Pg w K mg base s__law_time "_law_time" 2 ["pot", "depth", "most"] p_law_time := by
  refine calW T sc__law_time (fun _ _ _ _ _ _ us hl => match us, hl with | [_, _, _], _ => rfl) (by rintro ws U P ⟨p, n, k, m, rfl, _⟩; rfl) (fun f cdv A outer s H E hr gd => ?_)
  have hu : (A.deeper (envOfC "_law_time" (defScope s__law_time) s.heap.objs.size f cdv)).units + 70 < cLine := by have := hr.un; omega
  refine ⟨_, (pss_one (ps_ret (pe_callTy (bTup K) (by rfl) B.tuple (by decide +kernel) (pa_cons (pe_lc (own := [("at", 3)]) rfl sc__law_time.nd (pi_range1 (by rfl) B.range (pa_cons (pv 1) pa_nil)) (blkOk_by (N := N__law_time) (sc := defScope s__law_time) (by decide +kernel)) (fun _ _ _ _ _ => (pg_name (i := 3) sc__law_time.nd rfl (.inl rfl))) (fun _ _ _ _ _ => pts_nil) (fun _ _ _ _ _ => (pe_callTy b_int (by rfl) B.int (by decide +kernel) (pa_cons (pe_callC c__law_take hr gd (by rfl) (pa_cons (pv 0) (pa_cons (pe_op op_add (pv 2) pe_int) pa_nil))) pa_nil)))) pa_nil)))), fun ws U P h => ?_⟩
  try dsimp only [cxOf, Cx.nox]
  obtain ⟨p, n, k, m, rfl, hP, hn, hk, hm, q⟩ := h
  walk_at "tv"
  refine ev_lc (own_name (by simp)) (iw_rng1 ?_)
  walk_at "tv"
  have hkk : ((k : Int)).toNat = k := Int.toNat_natCast k
  refine ⟨k, rfl, by omega, by omega, fun i acc V => ∃ ns : List Int, acc = ns.map .int ∧ ns.length = i ∧ (∀ x ∈ ns, 0 ≤ x ∧ x ≤ (m : Int)) ∧ Pt V p (n + i) ∧ Els p U V, ⟨[], rfl, rfl, by simp, hP, Els.refl⟩, ?_, ?_⟩
  · rintro i acc V hi _ ⟨ns, e1, e2, e3, e4, e5⟩
    rw [hkk] at hi
    walk_at "tv"
    refine ⟨fun _ => ?_, fun z => nomatch z⟩
    walk_at "tv"
    refine ⟨p, n + i, _, rfl, e4, by omega, by omega, by omega, fun d V1 d0 d1 hP1 he1 => ?_⟩
    walk_at "tv"
    refine ⟨_, rfl, ?_, ns ++ [d], ?_, by simp [e2], ?_, hP1, e5.trans he1⟩
    · rw [e1, List.length_map]
      exact small1000 (by omega)
    · rw [e1, List.map_append]
      rfl
    · intro z hz
      rcases List.mem_append.mp hz with hz | hz
      · exact e3 z hz
      · rw [List.mem_singleton.mp hz]
        omega
  · rintro acc V _ ⟨ns, rfl, e2, e3, e4, e5⟩
    rw [hkk] at e2 e4
    walk_at "tv"
    exact q ns V e2 e3 e4 e5
theorem cal__law_walked (B : Bi mg) (T : At K mg s__law_walked "_law_walked") (c__law_shifted : Cal Pg w K mg base s__law_shifted "_law_shifted" 1 ["shift", "time"] p_law_shifted)   : Cal Pg w K mg base s__law_walked "_law_walked" 2 ["own", "place", "way", "time"] (p_walked K) := by
  refine calW T sc__law_walked (fun _ _ _ _ _ _ us hl => match us, hl with | [_, _, _, _], _ => rfl) (by rintro ws U P ⟨x, ps, ls, p, dn, way, t, rfl, _⟩; rfl) (fun f cdv A outer s H E hr gd => ?_)
  have hu : (A.deeper (envOfC "_law_walked" (defScope s__law_walked) s.heap.objs.size f cdv)).units + 70 < cLine := by have := hr.un; omega
  refine ⟨_, (pss_cons (ps_if (PW.pt (pw_or (pt_not (pt_val (pe_callB (bIsi K) (by rfl) B.isinstance (by decide +kernel) (pa_cons (pv 2) (pa_cons (pe_bltn (v := .ty "tuple") (u := .type "tuple") (by rfl) B.tuple (by decide +kernel) rfl) pa_nil))))) (pw_or1 (pt_cmpR (opEqD K hu) (pv 2) (pe_tup pa_nil) (nomark _)))))
        (pss_one (ps_ret pe_non))
        pss_nil)
      (pss_cons (ps_par (i := 4) (j := 5) (by rfl) sc__law_walked.nd rfl rfl (by decide) rfl rfl (pa_cons (pv 1) (pa_cons (pv 3) pa_nil)) (by rfl))
      (pss_cons (ps_for PassesOwn.never rfl (piT K (pv 2)) (pg_name (i := 6) sc__law_walked.nd rfl (.inl rfl))
        (pss_cons (ps_if (PW.pt (pw_or (pt_not (pt_val (pe_callB (bIsi K) (by rfl) B.isinstance (by decide +kernel) (pa_cons (pv 6) (pa_cons (pe_bltn (v := .ty "int") (u := .type "int") (by rfl) B.int (by decide +kernel) rfl) pa_nil))))) (pw_or (pt_val (pe_callB (bIsi K) (by rfl) B.isinstance (by decide +kernel) (pa_cons (pv 6) (pa_cons (pe_bltn (v := .ty "bool") (u := .type "bool") (by rfl) B.bool (by decide +kernel) rfl) pa_nil)))) (pw_or1 (pt_not (pt_chain op_le op_lt pe_int (pv 6) (pe_callB (bLen K) (by rfl) B.len (by decide +kernel) (pa_cons (peDGet hu (pv 0) pe_str (fun _ _ => rfl)) pa_nil))))))))
        (pss_one (ps_ret pe_non))
        pss_nil)
      (pss_cons (ps_asg (pe_ix (ixL K) (peDGet hu (pv 0) pe_str (fun _ _ => rfl)) (pv 6) (fun _ _ => rfl)) (pgT K (n := 3) rfl (pgs_cons (pg_name (i := 7) sc__law_walked.nd rfl (.inl rfl)) (pgs_cons (pg_name (i := 8) sc__law_walked.nd rfl (.inl rfl)) (pgs_cons (pg_name (i := 9) sc__law_walked.nd rfl (.inl rfl)) pgs_nil)))))
      (pss_cons (ps_if (pt_cmpR op_ne (pv 7) (pv 4) (nomark _))
        (pss_one (ps_ret pe_non))
        pss_nil)
      (pss_one (ps_par (i := 4) (j := 5) (by rfl) sc__law_walked.nd rfl rfl (by decide) rfl rfl (pa_cons (pv 8) (pa_cons (pe_callC c__law_shifted hr gd (by rfl) (pa_cons (pv 9) (pa_cons (pv 5) pa_nil))) pa_nil)) (by rfl)))))))
      (pss_one (ps_ret (pe_ifExp (pt_cmpR op_eq (pv 4) (pv 1) (nomark _)) (pv 5) pe_non)))))), fun ws U P h => ?_⟩
  try dsimp only [cxOf, Cx.nox]
  obtain ⟨x, ps, ls, p, dn, way, t, rfl, hd, ok, hin, hp, ne, e, ht, q⟩ := h
  have lok := own_ls ok
  have hs1 : p ∈ ps.map (·.1) ∧ (kept dn).length = depOf ps p := ⟨List.mem_map_of_mem (f := (·.1)) hin, by simp [kept, depOf_eq ok.nd hin]⟩
  have lf := ok.lf
  walk_at "tv"
  refine ⟨true, rfl, fun _ => ?_, fun z => nomatch z⟩
  walk_at "tv"
  refine ⟨[], rfl, (show 0 ≤ sizeLine by decide), ?_⟩
  refine r2_eqD (natT_shaped way) (natT_shaped []) ?_
  rw [tup_nil, decide_eq_false ne]
  refine ⟨false, rfl, (fun z => nomatch z), fun _ => ?_⟩
  walk_at "tv"
  refine ⟨_, _, rfl, ?_⟩
  refine sw_seq (sw_for (iw_tup (ev_var rfl ⟨_, rfl, fun i ρ V => ∃ x6 x7 x8 x9, ρ = [some x, some (.s p), some (.d (wyN way)), some (.d (tm t)), some (.s (TB.nd ls (p, kept dn) (way.take i)).1), some (.d (tm (mv (shI (TB.nd ls (p, kept dn) (way.take i)).2) t))), x6, x7, x8, x9] ∧ V = U, ⟨none, none, none, none, ?_, rfl⟩, ?_, ?_⟩)))
  · rw [List.take_zero]
    show _ = [some x, some (.s p), some (.d (wyN way)), some (.d (tm t)), some (.s p), some (.d (tm (mv (shI (kept dn)) t))), none, none, none, none]
    rw [mv_kept21 ht]
    rfl
  · rintro i ρ V hi ⟨x6, x7, x8, x9, rfl, rfl⟩
    have hib : i < way.length := by simpa using hi
    obtain ⟨l, h1, h2, h3, h4, h5⟩ := pth_line hp hib
    have nok := hp.nd_ok lok hs1 i (Nat.le_of_lt hib)
    have lm := List.mem_of_getElem? h2
    show GW K _ (.d ((way.map fun n : Nat => PyData.int (n : Int)).getD i .none)) _ _ _
    rw [getD_at h1]
    generalize way.getD i 0 = k at h1 h2 h3
    have hat : atI (ls.map lnD) (k : Int) = some (lnD l) := atI_at (by rw [List.getElem?_map, h2]; rfl)
    have lead : ∀ j z, l.2.2[j]? = some z → z.1 = true → j < (TB.nd ls (p, kept dn) (way.take i)).2.length := fun j z hj hz => by rw [nok.2, ← h4]; exact (lok.few l lm j z hj).2 hz
    walk_at "tv"
    refine ⟨true, rfl, fun _ => ?_, fun z => nomatch z⟩
    walk_at "tv"
    refine ⟨false, rfl, fun _ => ?_, fun z => nomatch z⟩
    walk_at "tv"
    refine ⟨true, by rw [decide_eq_true]; omega, fun _ => ?_, fun z => nomatch z⟩
    walk_at "tv"
    refine ev_dget (ev_var rfl (ev_str ⟨ownK ps ls, .inr "lines", _, hd, rfl, ownK_lines, ?_⟩))
    walk_at "tv"
    refine ⟨true, by rw [List.length_map, decide_eq_true]; omega, (fun z => nomatch z), fun _ => ?_⟩
    walk_at "tv"
    refine ev_dget (ev_var rfl (ev_str ⟨ownK ps ls, .inr "lines", _, hd, rfl, ownK_lines, ?_⟩))
    walk_at "tv"
    refine r2_ixL hat ?_
    refine gw_three ?_
    walk_at "tv"
    rw [h4, decide_eq_true rfl]
    refine ⟨false, rfl, (fun z => nomatch z), fun _ => ?_⟩
    walk_at "tv"
    refine ⟨shI l.2.2, mv (shI (TB.nd ls (p, kept dn) (way.take i)).2) t, by rw [← shN_sh], by rw [shI, List.length_map, lok.len l lm]; have := lok.dp _ (lok.fin l lm); omega, leads_shI fun j z hj hz => by rw [mv_len', shI, List.length_map]; exact lead j z hj hz, ?_⟩
    walk_at "tv"
    refine ⟨_, _, rfl, some (.i (k : Int)), some (.s (TB.nd ls (p, kept dn) (way.take i)).1), some (.s l.2.1), some (.d (shN l.2.2)), ?_, rfl⟩
    rw [h5, ← mv_jn lead]
    rfl
  · rintro ρ V ⟨x6, x7, x8, x9, rfl, rfl⟩
    rw [List.length_map, List.take_length]
    walk_at "tv"
    rw [e, decide_eq_true rfl]
    refine ⟨true, rfl, fun _ => ?_, fun z => nomatch z⟩
    walk_at "tv"
    exact q
theorem cal__law_ring (B : Bi mg) (T : At K mg s__law_ring "_law_ring") (c__law_take : Cal Pg w K mg base s__law_take "_law_take" 1 ["pot", "upto"] pTake) (c__law_of : Cal Pg w K mg base s__law_of "_law_of" 2 ["pot", "some"] pOf2)   : Cal Pg w K mg base s__law_ring "_law_ring" 3 ["pot", "own"] (p_ring K) := by
  refine calW T sc__law_ring (fun _ _ _ _ _ _ us hl => match us, hl with | [_, _], _ => rfl) (by rintro ws U P ⟨a, n, x, ps, ls, rfl, _⟩; rfl) (fun f cdv A outer s H E hr gd => ?_)
  have hu : (A.deeper (envOfC "_law_ring" (defScope s__law_ring) s.heap.objs.size f cdv)).units + 70 < cLine := by have := hr.un; omega
  refine ⟨_, (pss_cons (ps_set (i := 2) sc__law_ring.nd rfl (.inl rfl) (pe_ix (ixT K) (pe_callC c__law_of hr gd (by rfl) (pa_cons (pv 0) (pa_cons (peDGet hu (pv 1) pe_str (fun _ _ => rfl)) pa_nil))) pe_int (fun _ _ => rfl)))
      (pss_cons (ps_asg (pe_tup (pa_cons (pv 2) (pa_cons (pe_lst pa_nil) pa_nil))) (pgT K (n := 2) rfl (pgs_cons (pg_name (i := 3) sc__law_ring.nd rfl (.inr rfl)) (pgs_cons (pg_name (i := 4) sc__law_ring.nd rfl (.inl rfl)) pgs_nil))))
      (pss_cons (ps_for PassesOwn.never rfl (pi_range1 (by rfl) B.range (pa_cons pe_int pa_nil)) (pg_name (i := 5) sc__law_ring.nd rfl (.inl rfl))
        (pss_cons (ps_setLc (i := 6) (own := [("number", 7), ("line", 8)]) rfl sc__law_ring.nd rfl rfl (sw_true rfl rfl rfl (by decide +kernel)) (piEnL K (by rfl) B.enumerate (pa_cons (peDGet hu (pv 1) pe_str (fun _ _ => rfl)) pa_nil)) (blkOk_by (N := N__law_ring) (sc := defScope s__law_ring) (by decide +kernel)) (fun _ _ _ _ _ => (pgT K (n := 2) rfl (pgs_cons (pg_name (i := 7) sc__law_ring.nd rfl (.inl rfl)) (pgs_cons (pg_name (i := 8) sc__law_ring.nd rfl (.inl rfl)) pgs_nil)))) (fun _ _ _ _ _ => (pts_one (pt_cmpR op_eq (pe_ix (ixT K) (pv 8) pe_int (fun _ _ => rfl)) (pv 3) (nomark _)))) (fun _ _ _ _ _ => (pv 7)))
      (pss_cons (ps_if (PW.pt (pw_or (pt_cmpR (opEqD K hu) (pv 6) (pe_lst pa_nil) (nomark _)) (pw_or1 (PW.pt (pw_and (pt_cmpR (opNeD K hu) (pv 4) (pe_lst pa_nil) (nomark _)) (pw_and (pt_cmpR op_eq (pv 3) (pv 2) (nomark _)) (pw_and1 (pt_cmpR op_eq (pe_callC c__law_take hr gd (by rfl) (pa_cons (pv 0) (pa_cons pe_int pa_nil))) pe_int (nomark _)))))))))
        (pss_one ps_break)
        pss_nil)
      (pss_cons (ps_expr (pe_bm PySem.F.plainAttrs_list PySem.F.slot_list_append PySem.F.type_list_append mt_append (pv 4) (pa_cons (pe_callC c__law_of hr gd (by rfl) (pa_cons (pv 0) (pa_cons (pv 6) pa_nil))) pa_nil)))
      (pss_one (ps_set (i := 3) sc__law_ring.nd rfl (.inr rfl) (pe_ix (ixT K) (pe_ix (ixL K) (peDGet hu (pv 1) pe_str (fun _ _ => rfl)) (pe_ix (ixL K) (pv 4) (pe_un un_neg pe_int) (fun _ _ => rfl)) (fun _ _ => rfl)) pe_int (fun _ _ => rfl))))))))
      (pss_one (ps_ret (pe_ifExp (PW.pt (pw_and (pt_cmpR (opNeD K hu) (pv 4) (pe_lst pa_nil) (nomark _)) (pw_and1 (pt_cmpR op_eq (pv 3) (pv 2) (nomark _))))) (pe_tup (pa_cons (pv 2) (pa_cons (pe_callTy (bTup K) (by rfl) B.tuple (by decide +kernel) (pa_cons (pe_lc (own := [("number", 7)]) rfl sc__law_ring.nd (piL K (pv 4)) (blkOk_by (N := N__law_ring) (sc := defScope s__law_ring) (by decide +kernel)) (fun _ _ _ _ _ => (pg_name (i := 7) sc__law_ring.nd rfl (.inl rfl))) (fun _ _ _ _ _ => pts_nil) (fun _ _ _ _ _ => (pe_callTy b_int (by rfl) B.int (by decide +kernel) (pa_cons (pv 7) pa_nil)))) pa_nil)) pa_nil))) pe_non)))))), fun ws U P h => ?_⟩
  try dsimp only [cxOf, Cx.nox]
  obtain ⟨a, n, x, ps, ls, rfl, hP, hn, hd, ok, q0, q1⟩ := h
  have lf := ok.lf
  have one := ok.one
  have few := ok.few
  refine sw_seq (sw_asg (ev_op (ev_call (ev_cons (ev_var rfl (ev_cons ?_))))))
  refine ev_dget (ev_var rfl (ev_str ⟨ownK ps ls, .inr "places", _, hd, rfl, ownK_places, ev_nil ?_⟩))
  refine .inl ⟨a, n, _, rfl, hP, by omega, ?_, by rw [List.length_map]; omega, fun y V hy hP1 he1 => ?_⟩
  · intro z
    have z2 := congrArg List.length z
    rw [List.length_map] at z2
    simp only [List.length_nil] at z2
    omega
  obtain ⟨⟨p, dn⟩, hin, rfl⟩ := List.mem_map.mp hy
  refine ev_int (r2_ixT (x := .str p) rfl (gw_name ?_))
  have hd1 := dk_els hd hP he1
  refine sw_seq (sw_asg (ev_tupW (ev_cons (ev_var rfl (ev_cons (ev_lstM (ev_nil ⟨(show 0 ≤ sizeLine by decide), fun D hD => ev_nil ⟨(show 2 ≤ sizeLine by decide), gw_tupW rfl ?_⟩⟩)))))))
  refine gsw_cons (gw_name (gsw_cons (gw_name (gsw_nil ?_))))
  have nDa : D ≠ a := fun z => by
    obtain ⟨_, _, _, e, _⟩ := hP1
    rw [z, e] at hD
    cases hD
  have hPD : Pt (put V D (.l [])) a (n + 1) := by
    obtain ⟨u, v, c, e1, e2⟩ := hP1
    exact ⟨u, v, c, by rw [put_ne nDa.symm]; exact e1, e2⟩
  have lok := own_ls ok
  have uD : U D = none := by rw [← he1 D nDa]; exact hD
  refine sw_seqC (fun ρ Z => ∃ (w : List Nat) (x5 x6 : Option W), ρ = [some (.r a), some x, some (.s p), some (.s (TB.nd ls (p, kept dn) w).1), some (.r D), x5, x6, none, none] ∧ w.length ≤ 12 ∧ TB.Pth ls (p, kept dn) w ∧ Z D = some (.l ((w.map fun n : Nat => PyData.int (n : Int)).map W.d)) ∧ Pt Z a (n + 1 + 2 * 12) ∧ (∀ c, c ≠ a → c ≠ D → Z c = U c)) ?_ ?_
  refine sw_for (iw_rng1 (ev_cons (ev_int (ev_nil ⟨12, rfl, by decide, by decide, fun i ρ Z => ∃ (w : List Nat) (x5 x6 : Option W), ρ = [some (.r a), some x, some (.s p), some (.s (TB.nd ls (p, kept dn) w).1), some (.r D), x5, x6, none, none] ∧ w.length ≤ i ∧ TB.Pth ls (p, kept dn) w ∧ Z D = some (.l ((w.map fun n : Nat => PyData.int (n : Int)).map W.d)) ∧ Pt Z a (n + 1 + 2 * i) ∧ (∀ c, c ≠ a → c ≠ D → Z c = U c),
    ⟨[], none, none, rfl, Nat.le_refl _, TB.Pth.nil _ _, put_same, hPD, fun c c1 c2 => by rw [put_ne c2, he1 c c1]⟩, ?_, ?_⟩))))
  · rintro i ρ Z hi ⟨w, x5, x6, rfl, wl, hp, hW, hPW, hE⟩
    have hi12 : i < 12 := by simpa using hi
    have dkW : ∀ Z' : UU, (∀ c, c ≠ a → c ≠ D → Z' c = U c) → DkIs K Z' x (ownK ps ls) := fun Z' h => by
      rcases hd with ⟨b, rfl, hb⟩ | rfl
      · refine .inl ⟨b, rfl, ?_⟩
        rw [h b (fun z => by obtain ⟨_, _, _, e, _⟩ := hP; rw [z, e] at hb; cases hb) (fun z => by rw [z, uD] at hb; cases hb)]
        exact hb
      · exact .inr rfl
    generalize hs : (TB.nd ls (p, kept dn) w).1 = s
    refine gw_name ?_
    refine sw_seq (sw_asg (ev_lc (own_tup (owns_cons gname_mono (own_name (by simp)) (owns_cons gname_mono (own_name (by simp)) owns_nil))) (iw_enumL (ev_cons (ev_dget (ev_var rfl (ev_str ⟨ownK ps ls, .inr "lines", _, dkW Z hE, rfl, ownK_lines, ev_nil ?_⟩)))))))
    refine ⟨_, rfl, fun j acc Vx => Vx = Z ∧ acc = ((List.range j).filter fun i => decide ((ls.map (fun l : Ln => l.1)).getD i (Str.ofString "") = s)).map fun i : Nat => PyData.int (i : Int), ⟨rfl, rfl⟩, ?_, ?_⟩
    · rintro j acc Vx hj hacc ⟨rfl, rfl⟩
      have hjb : j < ls.length := by simpa using hj
      obtain ⟨ln, hli⟩ : ∃ ln, ls[j]? = some ln := ⟨ls[j], by simp [hjb]⟩
      have e0 : (ls.map (fun l : Ln => l.1)).getD j (Str.ofString "") = ln.1 := by rw [List.getD_eq_getElem?_getD, List.getElem?_map, hli]; rfl
      show GW K _ (.d (.tuple [.int (j : Nat), (ls.map lnD).getD j .none])) _ _ _
      rw [getD_at hli]
      refine gw_pair ?_
      walk_at "tv"
      refine r2_ixT (x := .str ln.1) rfl ?_
      walk_at "tv"
      refine ⟨_, rfl, fun hb => ?_, fun hb => ?_⟩
      · walk_at "tv"
        refine ⟨_, rfl, Nat.lt_of_le_of_lt hacc (by rw [sizeLine_eq]; omega), rfl, ?_⟩
        rw [List.range_succ, List.filter_append, List.map_append, List.filter_cons, e0, hb]
        rfl
      · refine ⟨rfl, ?_⟩
        rw [List.range_succ, List.filter_append, List.map_append, List.filter_cons, e0, hb]
        simp
    rintro acc Vx _ ⟨rfl, rfl⟩
    rw [List.length_map]
    refine gw_name ?_
    rw [show ((List.range ls.length).filter fun i => decide ((ls.map (fun l : Ln => l.1)).getD i (Str.ofString "") = s)) = frm ls s from rfl]
    have flen : (frm ls s).length ≤ 24 := Nat.le_trans (List.length_filter_le _ _) (by rw [List.length_range]; exact lf)
    have fin : ∀ (W2 : UU) (k : Nat), k ≤ n + 1 + 2 * i + 2 → Pt W2 a k → Els a Vx W2 → W2 D = some (.l ((w.map fun n : Nat => PyData.int (n : Int)).map W.d)) ∧ (∀ c, c ≠ a → c ≠ D → W2 c = U c) := fun W2 k hk hP2 he2 => ⟨by rw [he2 D nDa]; exact hW, fun c c1 c2 => by rw [he2 c c1]; exact hE c c1 c2⟩
    refine sw_seqC (fun ρ Z2 => ρ = [some (.r a), some x, some (.s p), some (.s s), some (.r D), some (.i (0 + (i : Int))), some (.l ((frm ls s).map fun n : Nat => PyData.int (n : Int))), none, none] ∧ frm ls s ≠ [] ∧ Pt Z2 a (n + 1 + 2 * i + 1) ∧ Els a Vx Z2) ?_ ?_
    · refine sw_if (et_or (et_test (ev_op (ev_var rfl (ev_lst (ev_nil ⟨[], rfl, (show 0 ≤ sizeLine by decide), ?_⟩))))))
      refine r2_eqD (natL_shaped _) (by decide +kernel) ?_
      rw [list_nil]
      have brk : ∀ (Z2 : UU) (x5 x6 : Option W), Pt Z2 a (n + 1 + 2 * i + 2) → Els a Vx Z2 → ∃ (w : List Nat) (x5' x6' : Option W), [some (.r a), some x, some (.s p), some (.s s), some (.r D), x5, x6, none, none] = [some (.r a), some x, some (.s p), some (.s (TB.nd ls (p, kept dn) w).1), some (.r D), x5', x6', none, none] ∧ w.length ≤ 12 ∧ TB.Pth ls (p, kept dn) w ∧ Z2 D = some (.l ((w.map fun n : Nat => PyData.int (n : Int)).map W.d)) ∧ Pt Z2 a (n + 1 + 2 * 12) ∧ (∀ c, c ≠ a → c ≠ D → Z2 c = U c) := fun Z2 x5 x6 hP2 he2 => by
        obtain ⟨b1, b2⟩ := fin Z2 _ (Nat.le_refl _) hP2 he2
        exact ⟨w, _, _, by rw [hs], by omega, hp, b1, hP2.mono (by omega), b2⟩
      refine ⟨_, rfl, fun h1 => ?_, fun h1 => ?_⟩
      · have hne : frm ls s ≠ [] := of_decide_eq_false h1
        refine et_and (et_test (ev_op (ev_var rfl (ev_lst (ev_nil ⟨[], rfl, (show 0 ≤ sizeLine by decide), ?_⟩)))))
        refine r2_neM hW (natL_shaped w) (by decide +kernel) ?_
        rw [list_nil]
        refine ⟨_, rfl, fun h2 => ?_, fun h2 => ?_⟩
        · walk_at "tv"
          refine ⟨_, rfl, fun h3 => ?_, fun h3 => ?_⟩
          · walk_at "tv"
            refine ⟨a, n + 1 + 2 * i, 2, rfl, hPW, by omega, by decide, by decide, fun k V1 k0 k1 hP2 he2 => ?_⟩
            walk_at "tv"
            refine ⟨_, rfl, fun h4 => ?_, fun h4 => ?_⟩
            · exact sw_break (brk V1 _ _ (hP2.mono (by omega)) he2)
            · exact sw_next ⟨rfl, hne, hP2, he2⟩
          · exact ⟨(fun z => nomatch z), fun _ => sw_next ⟨rfl, hne, hPW.mono (by omega), Els.refl⟩⟩
        · exact ⟨(fun z => nomatch z), fun _ => sw_next ⟨rfl, hne, hPW.mono (by omega), Els.refl⟩⟩
      · exact ⟨fun _ => sw_break (brk Vx _ _ (hPW.mono (by omega)) Els.refl), fun z => nomatch z⟩
    · rintro ρ2 Z2 ⟨rfl, hne, hP2, he2⟩
      obtain ⟨b1, b2⟩ := fin Z2 _ (by omega) hP2 he2
      refine sw_seq (sw_drop (ev_bm ?_))
      walk_at "tv"
      refine ⟨ty_M b1, ?_⟩
      walk_at "tv"
      refine .inl ⟨a, n + 1 + 2 * i + 1, _, rfl, hP2, by omega, fun z => hne (List.map_eq_nil_iff.mp z), by rw [List.length_map]; omega, fun y Z3 hy hP3 he3 => ?_⟩
      obtain ⟨k, hk, rfl⟩ := List.mem_map.mp hy
      obtain ⟨l, hkl, hls⟩ := frm_mem hk
      have b3 : Z3 D = some (.l ((w.map fun n : Nat => PyData.int (n : Int)).map W.d)) := by rw [he3 D nDa]; exact b1
      walk_at "tv"
      refine rm_append b3 (by rw [List.length_map, List.length_map, sizeLine_eq]; omega) ?_
      rw [show (w.map fun n : Nat => PyData.int (n : Int)).map W.d ++ [W.i (k : Int)] = ((w ++ [k]).map fun n : Nat => PyData.int (n : Int)).map W.d by rw [List.map_append, List.map_append]; rfl]
      have hE4 : ∀ c, c ≠ a → c ≠ D → put Z3 D (.l (((w ++ [k]).map fun n : Nat => PyData.int (n : Int)).map W.d)) c = U c := fun c c1 c2 => by rw [put_ne c2, he3 c c1, b2 c c1 c2]
      have hat : atI (ls.map lnD) (k : Int) = some (lnD l) := atI_at (by rw [List.getElem?_map, hkl]; rfl)
      refine sw_asg (ev_op (ev_op ?_))
      refine ev_dget (ev_var rfl (ev_str ⟨ownK ps ls, .inr "lines", _, dkW _ hE4, rfl, ownK_lines, ?_⟩))
      refine ev_op (ev_var rfl (ev_un (ev_int (r1_int ?_))))
      refine r2_ixM (w := .i (k : Int)) put_same (by rw [List.map_append, List.map_append]; exact atI_last _ _) ?_
      refine r2_ixL hat ?_
      refine ev_int (r2_ixT (x := .str l.2.1) rfl (gw_name ?_))
      refine ⟨w ++ [k], some (.i (0 + (i : Int))), some (.l ((frm ls s).map fun n : Nat => PyData.int (n : Int))), ?_, by rw [List.length_append, List.length_singleton]; omega, hp.snoc hkl (by rw [hs]; exact hls), put_same, ?_, hE4⟩
      · rw [TB.nd_snoc, TB.step, hkl]
        rfl
      · obtain ⟨u, v, c, e1, e2⟩ := hP3
        exact ⟨u, v, c, by rw [put_ne nDa.symm]; exact e1, { e2 with c1 := by have := e2.c1; omega }⟩
  · rintro ρ Z ⟨w, x5, x6, rfl, wl, hp, hW, hPW, hE⟩
    exact ⟨w, x5, x6, rfl, wl, hp, hW, hPW, hE⟩
  rintro ρ Z ⟨w, x5, x6, rfl, wl, hp, hW, hPW, hE⟩
  refine sw_freeze (i := 4) (xs := w.map fun n : Nat => PyData.int (n : Int)) rfl hW ?_
  have hE2 : Els a U (cut Z D) := fun c hc => by
    by_cases z : c = D
    · rw [z, cut_same, uD]
    · rw [cut_ne z, hE c hc z]
  have hP2 : Pt (cut Z D) a (n + 30) := by
    obtain ⟨u, v, c, e1, e2⟩ := hPW
    exact ⟨u, v, c, by rw [cut_ne nDa.symm]; exact e1, { e2 with c1 := by have := e2.c1; omega }⟩
  refine sw_ret (ev_if (et_and (et_test (ev_op (ev_var rfl (ev_lst (ev_nil ⟨[], rfl, (show 0 ≤ sizeLine by decide), ?_⟩)))))))
  refine r2_neD (natL_shaped w) (by decide +kernel) ?_
  rw [list_nil]
  refine ⟨_, rfl, fun h2 => ?_, fun h2 => ?_⟩
  · walk_at "tv"
    refine ⟨_, rfl, fun h3 => ?_, fun h3 => ?_⟩
    · refine ev_tup (ev_cons (ev_var rfl (ev_cons (ev_cb (ev_cons ?_)))))
      refine ev_lcL (xs := w) (h := fun n : Nat => PyData.int (n : Int)) (f := fun n : Nat => PyData.int (n : Int)) (own_name (by simp)) ?_
      refine ev_var rfl ⟨rfl, by rw [sizeLine_eq]; omega, fun i k hk => ?_, ?_⟩
      · unfold Turn1
        walk_at "tv"
        refine ⟨rfl, ?_⟩
        walk_at "tv"
        exact ⟨rfl, rfl⟩
      walk_at "tv"
      refine ⟨[.str p, wyN w], rfl, (show 2 ≤ sizeLine by decide), ?_⟩
      refine q1 p dn w _ hin (fun z => ?_) wl hp (of_decide_eq_true h3) hP2 hE2
      rw [z] at h2
      cases h2
    · walk_at "tv"
      exact q0 _ hP2 hE2
  · refine ⟨(fun z => nomatch z), fun _ => ?_⟩
    walk_at "tv"
    exact q0 _ hP2 hE2
theorem cal__law_drawn (B : Bi mg) (T : At K mg s__law_drawn "_law_drawn") (c__law_take : Cal Pg w K mg base s__law_take "_law_take" 1 ["pot", "upto"] pTake) (c__law_any_plan : Cal Pg w K mg base s__law_any_plan "_law_any_plan" 4 ["pot", "most"] (p_any_plan21 K)) (c__law_plan : Cal Pg w K mg base s__law_plan "_law_plan" 5 ["pot", "most"] (p_plan21 K))   : Cal Pg w K mg base s__law_drawn "_law_drawn" 6 ["pot", "most"] (p_drawn21 K) := by
  refine calW T sc__law_drawn (fun _ _ _ _ _ _ us hl => match us, hl with | [_, _], _ => rfl) (by rintro ws U P ⟨a, n, m, rfl, _⟩; rfl) (fun f cdv A outer s H E hr gd => ?_)
  have hu : (A.deeper (envOfC "_law_drawn" (defScope s__law_drawn) s.heap.objs.size f cdv)).units + 70 < cLine := by have := hr.un; omega
  refine ⟨_, (pss_one (ps_ret (pe_ifExp (pt_cmpR op_eq (pe_callC c__law_take hr gd (by rfl) (pa_cons (pv 0) (pa_cons pe_int pa_nil))) pe_int (nomark _)) (pe_callC c__law_plan hr gd (by rfl) (pa_cons (pv 0) (pa_cons (pv 1) pa_nil))) (pe_callC c__law_any_plan hr gd (by rfl) (pa_cons (pv 0) (pa_cons (pv 1) pa_nil)))))), fun ws U P h => ?_⟩
  try dsimp only [cxOf, Cx.nox]
  obtain ⟨a, n, m, rfl, hP, hn, m1, m6, q⟩ := h
  walk_at "tv"
  refine ⟨a, n, 3, rfl, hP, by omega, by decide, by decide, fun k V k0 k1 hP1 he1 => ?_⟩
  walk_at "tv"
  refine ⟨_, rfl, fun _ => ?_, fun _ => ?_⟩
  · walk_at "tv"
    refine ⟨a, n + 1, m, rfl, hP1, by omega, m1, m6, fun d ps ls U1 nda ok nmx sn pm lsm hP2 hd1 hUd hE1 => ?_⟩
    exact q d ps ls U1 nda ok nmx pm lsm (hP2.mono (by omega)) hd1 (by rw [← he1 d nda]; exact hUd) fun c c1 c2 => by rw [hE1 c c1 c2, he1 c c1]
  · walk_at "tv"
    refine ⟨a, n + 1, m, rfl, hP1, by omega, m1, by omega, fun d ps ls U1 nda okt nmx lo pm lsm hP2 hd1 hUd hE1 => ?_⟩
    have ok : OwnOk ps ls := by
      have := okt 24 (Nat.le_refl _)
      rwa [List.take_of_length_le (by omega)] at this
    exact q d ps ls U1 nda ok nmx pm lsm (hP2.mono (by omega)) hd1 (by rw [← he1 d nda]; exact hUd) fun c c1 c2 => by rw [hE1 c c1 c2, he1 c c1]
theorem cal__law_way_shift (B : Bi mg) (T : At K mg s__law_way_shift "_law_way_shift") (c__law_depth : Cal Pg w K mg base s__law_depth "_law_depth" 1 ["own", "place"] (p_depth_own K)) (c__law_joined_shift : Cal Pg w K mg base s__law_joined_shift "_law_joined_shift" 1 ["one", "other"] p_law_joined)   : Cal Pg w K mg base s__law_way_shift "_law_way_shift" 2 ["own", "place", "way"] (p_way_shift K) := by
  refine calW T sc__law_way_shift (fun _ _ _ _ _ _ us hl => match us, hl with | [_, _, _], _ => rfl) (by rintro ws U P ⟨x, ps, ls, p, dn, way, rfl, _⟩; rfl) (fun f cdv A outer s H E hr gd => ?_)
  have hu : (A.deeper (envOfC "_law_way_shift" (defScope s__law_way_shift) s.heap.objs.size f cdv)).units + 70 < cLine := by have := hr.un; omega
  refine ⟨_, (pss_cons (ps_set (i := 3) sc__law_way_shift.nd rfl (.inl rfl) (pe_callTy (bTup K) (by rfl) B.tuple (by decide +kernel) (pa_cons (pe_op op_rep (pe_lst (pa_cons (pe_tup (pa_cons pe_str (pa_cons pe_int pa_nil))) pa_nil)) (pe_callC c__law_depth hr gd (by rfl) (pa_cons (pv 0) (pa_cons (pv 1) pa_nil)))) pa_nil)))
      (pss_cons (ps_for PassesOwn.never rfl (piT K (pv 2)) (pg_name (i := 4) sc__law_way_shift.nd rfl (.inl rfl))
        (pss_one (ps_set (i := 3) sc__law_way_shift.nd rfl (.inl rfl) (pe_callC c__law_joined_shift hr gd (by rfl) (pa_cons (pv 3) (pa_cons (pe_ix (ixT K) (pe_ix (ixL K) (peDGet hu (pv 0) pe_str (fun _ _ => rfl)) (pv 4) (fun _ _ => rfl)) pe_int (fun _ _ => rfl)) pa_nil))))))
      (pss_one (ps_ret (pv 3))))), fun ws U P h => ?_⟩
  try dsimp only [cxOf, Cx.nox]
  obtain ⟨x, ps, ls, p, dn, way, rfl, hd, ok, hin, hp, q⟩ := h
  have lok := own_ls ok
  have d13 := (ok.nms _ hin).2
  have hs1 : p ∈ ps.map (·.1) ∧ (kept dn).length = depOf ps p := ⟨List.mem_map_of_mem (f := (·.1)) hin, by simp [kept, depOf_eq ok.nd hin]⟩
  have d3 : dn ≤ 3 := d13.2
  refine sw_seq (sw_asg (ev_cb (ev_cons (ev_op (ev_lstM ?_)))))
  walk_at "tv"
  refine ⟨[.str "+", .int 0], rfl, by decide, ?_⟩
  walk_at "tv"
  refine ⟨by decide, fun a0 ha0 => ?_⟩
  have up0 : ∀ V : UU, (∀ c b, c ≠ a0 → U c = some b → V c = some b) → ∀ c b, U c = some b → V c = some b := fun V h c b z => h c b (fun y => by rw [y, ha0] at z; cases z) z
  have hd0 : DkIs K (put U a0 (.l [.t [.str "+", .int 0]])) x (ownK ps ls) := dk_of hd (up0 _ fun c b h1 h2 => by rw [put_ne h1]; exact h2)
  refine ev_call (ev_cons (ev_var rfl (ev_cons (ev_var rfl (ev_nil ⟨x, ps, ls, p, dn, rfl, hd0, ok.few, ok.nd, hin, ?_⟩)))))
  refine r2_repM (xs := [.tuple [.str "+", .int 0]]) put_same (by omega) (by omega) (by decide) ?_
  rw [show (List.replicate ((dn : Nat) : Int).toNat [PyData.tuple [PyData.str (Str.ofString "+"), PyData.int 0]]).flatten = (kept dn).map fun w : Bool × Nat => PyData.tuple [.str (sign w.1), .int (w.2 : Int)] from rep_plus dn]
  refine ev_nil (rl_tupL (gw_name ?_))
  refine sw_seq (sw_for (iw_tup (ev_var rfl ⟨_, rfl, fun i ρ V => ∃ x4, ρ = [some x, some (.s p), some (.d (wyN way)), some (.d (shN (TB.nd ls (p, kept dn) (way.take i)).2)), x4] ∧ V = put U a0 (.l [.t [.str "+", .int 0]]), ⟨none, rfl, rfl⟩, ?_, ?_⟩)))
  · rintro i ρ V hi ⟨x4, rfl, rfl⟩
    have hib : i < way.length := by simpa using hi
    obtain ⟨l, h1, h2, h3, h4, h5⟩ := pth_line hp hib
    have nok := hp.nd_ok lok hs1 i (Nat.le_of_lt hib)
    have lm := List.mem_of_getElem? h2
    show GW K _ (.d ((way.map fun n : Nat => PyData.int (n : Int)).getD i .none)) _ _ _
    rw [getD_at h1]
    generalize way.getD i 0 = k at h1 h2 h3
    have hat : atI (ls.map lnD) (k : Int) = some (lnD l) := atI_at (by rw [List.getElem?_map, h2]; rfl)
    refine gw_name (sw_asg (ev_call (ev_cons (ev_var rfl (ev_cons (ev_op (ev_op ?_)))))))
    refine ev_dget (ev_var rfl (ev_str ⟨ownK ps ls, .inr "lines", _, hd0, rfl, ownK_lines, ?_⟩))
    walk_at "tv"
    refine r2_ixL hat ?_
    walk_at "tv"
    refine r2_ixT (x := shN l.2.2) rfl ?_
    walk_at "tv"
    refine ⟨shI (TB.nd ls (p, kept dn) (way.take i)).2, shI l.2.2, by rw [← shN_sh, ← shN_sh], by rw [shI, List.length_map, lok.len l lm]; have := lok.dp _ (lok.fin l lm); omega, leads_shI fun j z hj hz => by rw [shI, List.length_map, nok.2, ← h4]; exact (lok.few l lm j z hj).2 hz, ?_⟩
    rw [jn_shI, ← shN_sh]
    walk_at "tv"
    refine ⟨some (.i (k : Int)), ?_, rfl⟩
    rw [h5]
    rfl
  · rintro ρ V ⟨x4, rfl, rfl⟩
    refine sw_ret (ev_less (ev_var rfl ⟨U, up0 _ fun c b h1 h2 => by rw [put_ne h1]; exact h2, ?_⟩))
    rw [List.length_map, List.take_length]
    exact q
theorem cal__law_is_ring_right (B : Bi mg) (T : At K mg s__law_is_ring_right "_law_is_ring_right") (c_ring_time : Cal Pg w K mg base s_ring_time "ring_time" 6 ["plan", "place", "way"] (p_ring_time K C_Plan)) (c__law_at_most : Cal Pg w K mg base s__law_at_most "_law_at_most" 1 ["one", "other"] p_law_at_most) (c__law_time : Cal Pg w K mg base s__law_time "_law_time" 2 ["pot", "depth", "most"] p_law_time) (c__law_walked : Cal Pg w K mg base s__law_walked "_law_walked" 2 ["own", "place", "way", "time"] (p_walked K)) (c__law_ring : Cal Pg w K mg base s__law_ring "_law_ring" 3 ["pot", "own"] (p_ring K)) (c__law_way_shift : Cal Pg w K mg base s__law_way_shift "_law_way_shift" 2 ["own", "place", "way"] (p_way_shift K))  (cl_Plan : ClsAt K mg "Plan" C_Plan) (na_text : NoAttr K C_Plan "text") (na_places : NoAttr K C_Plan "places") (na_lines : NoAttr K C_Plan "lines") : Cal Pg w K mg base s__law_is_ring_right "_law_is_ring_right" 7 ["pot", "own", "plan"] (p_ring_right K C_Plan) := by
  refine calW T sc__law_is_ring_right (fun _ _ _ _ _ _ us hl => match us, hl with | [_, _, _], _ => rfl) (by rintro ws U P ⟨a, n, x, ps, ls, rfl, _⟩; rfl) (fun f cdv A outer s H E hr gd => ?_)
  have hu : (A.deeper (envOfC "_law_is_ring_right" (defScope s__law_is_ring_right) s.heap.objs.size f cdv)).units + 70 < cLine := by have := hr.un; omega
  refine ⟨_, (pss_cons (ps_set (i := 3) sc__law_is_ring_right.nd rfl (.inl rfl) (pe_callC c__law_ring hr gd (by rfl) (pa_cons (pv 0) (pa_cons (pv 1) pa_nil))))
      (pss_cons (ps_if (pt_cmpR opIsN (pv 3) pe_non (nomark _))
        (pss_one (ps_ret pe_bl))
        pss_nil)
      (pss_cons (ps_asg (pv 3) (pgT K (n := 2) rfl (pgs_cons (pg_name (i := 4) sc__law_is_ring_right.nd rfl (.inl rfl)) (pgs_cons (pg_name (i := 5) sc__law_is_ring_right.nd rfl (.inl rfl)) pgs_nil))))
      (pss_cons (ps_set (i := 6) sc__law_is_ring_right.nd rfl (.inl rfl) (pe_callC c__law_way_shift hr gd (by rfl) (pa_cons (pv 1) (pa_cons (pv 4) (pa_cons (pv 5) pa_nil)))))
      (pss_cons (ps_setLc (i := 7) (own := [("at", 11), ("word", 12), ("many", 13)]) rfl sc__law_is_ring_right.nd rfl rfl (sw_true rfl rfl rfl (by decide +kernel)) (piEnT K (by rfl) B.enumerate (pa_cons (pv 6) pa_nil)) (blkOk_by (N := N__law_is_ring_right) (sc := defScope s__law_is_ring_right) (by decide +kernel)) (fun _ _ _ _ _ => (pgT K (n := 2) rfl (pgs_cons (pg_name (i := 11) sc__law_is_ring_right.nd rfl (.inl rfl)) (pgs_cons (pgT K (n := 2) rfl (pgs_cons (pg_name (i := 12) sc__law_is_ring_right.nd rfl (.inl rfl)) (pgs_cons (pg_name (i := 13) sc__law_is_ring_right.nd rfl (.inl rfl)) pgs_nil))) pgs_nil)))) (fun _ _ _ _ _ => (pts_one (PW.pt (pw_and (pt_cmpR op_eq (pv 12) pe_str (nomark _)) (pw_and1 (pt_cmpR op_gt (pv 13) pe_int (nomark _))))))) (fun _ _ _ _ _ => (pv 11)))
      (pss_cons (ps_set (i := 8) sc__law_is_ring_right.nd rfl (.inl rfl) (pe_callC0 c_ring_time hr gd (by rfl) (kb_ring_time_0_012 c_ring_time) (pk_cons (pv 2) (pk_cons (pv 4) (pk_cons (pv 5) pk_nil)))))
      (pss_cons (ps_if (pt_cmpR (opNeD K hu) (pv 7) (pe_lst pa_nil) (nomark _))
        (pss_one (ps_ret (pe_cmpR op_eq (pe_callB (bRepr K gd hu) (by rfl) B.repr (by decide +kernel) (pa_cons (pv 8) pa_nil)) (pe_callB (bRepr K gd hu) (by rfl) B.repr (by decide +kernel) (pa_cons (pe_tup (pa_cons pe_str (pa_cons (pe_callTy b_int (by rfl) B.int (by decide +kernel) (pa_cons (pe_ix (ixL K) (pv 7) pe_int (fun _ _ => rfl)) pa_nil)) pa_nil))) pa_nil)) (nomark _))))
        pss_nil)
      (pss_cons (ps_set (i := 9) sc__law_is_ring_right.nd rfl (.inl rfl) (pe_callTy (bTup K) (by rfl) B.tuple (by decide +kernel) (pa_cons (pe_lc (own := [("word", 12), ("many", 13)]) rfl sc__law_is_ring_right.nd (piT K (pv 6)) (blkOk_by (N := N__law_is_ring_right) (sc := defScope s__law_is_ring_right) (by decide +kernel)) (fun _ _ _ _ _ => (pgT K (n := 2) rfl (pgs_cons (pg_name (i := 12) sc__law_is_ring_right.nd rfl (.inl rfl)) (pgs_cons (pg_name (i := 13) sc__law_is_ring_right.nd rfl (.inl rfl)) pgs_nil)))) (fun _ _ _ _ _ => pts_nil) (fun _ _ _ _ _ => (pe_ifExp (pt_cmpR op_eq (pv 12) pe_str (nomark _)) pe_int (pv 13)))) pa_nil)))
      (pss_cons (ps_if (PW.pt (pw_or (pt_cmpR op_ne (pe_callB (bRepr K gd hu) (by rfl) B.repr (by decide +kernel) (pa_cons (pv 8) pa_nil)) (pe_callB (bRepr K gd hu) (by rfl) B.repr (by decide +kernel) (pa_cons (pe_tup (pa_cons pe_str (pa_cons (pv 9) pa_nil))) pa_nil)) (nomark _)) (pw_or1 (pt_not (pt_val (pe_callC c__law_at_most hr gd (by rfl) (pa_cons (pe_callC c__law_walked hr gd (by rfl) (pa_cons (pv 1) (pa_cons (pv 4) (pa_cons (pv 5) (pa_cons (pv 9) pa_nil))))) (pa_cons (pv 9) pa_nil))))))))
        (pss_one (ps_ret pe_bl))
        pss_nil)
      (pss_cons (ps_set (i := 10) sc__law_is_ring_right.nd rfl (.inl rfl) (pe_callC c__law_time hr gd (by rfl) (pa_cons (pv 0) (pa_cons (pe_callB (bLen K) (by rfl) B.len (by decide +kernel) (pa_cons (pv 9) pa_nil)) (pa_cons pe_int pa_nil)))))
      (pss_one (ps_ret (pe_cmpR op_eq (pe_callC c__law_at_most hr gd (by rfl) (pa_cons (pe_callC c__law_walked hr gd (by rfl) (pa_cons (pv 1) (pa_cons (pv 4) (pa_cons (pv 5) (pa_cons (pv 10) pa_nil))))) (pa_cons (pv 10) pa_nil))) (pe_callC c__law_at_most hr gd (by rfl) (pa_cons (pv 9) (pa_cons (pv 10) pa_nil))) (nomark _)))))))))))))), fun ws U P h => ?_⟩
  try dsimp only [cxOf, Cx.nox]
  obtain ⟨a, n, x, ps, ls, rfl, hP, hn, hd, ok, q⟩ := h
  have lok := own_ls ok
  walk_at "tv"
  refine ⟨a, n, x, ps, ls, rfl, hP, by omega, hd, ok, fun V hP1 he1 => ?_, fun p dn way V hin ne wl hp hend hP1 he1 => ?_⟩
  · walk_at "tv"
    refine r2_isN ?_
    refine ⟨true, rfl, fun _ => ?_, fun z => nomatch z⟩
    walk_at "tv"
    exact q V he1 (hP1.mono (by omega))
  have hs1 : p ∈ ps.map (·.1) ∧ (kept dn).length = depOf ps p := ⟨List.mem_map_of_mem (f := (·.1)) hin, by simp [kept, depOf_eq ok.nd hin]⟩
  have nok := hp.nd_ok lok hs1 way.length (Nat.le_refl _)
  have low := hp.nd_low lok (fun x hx => by rw [List.eq_of_mem_replicate hx]) way.length (Nat.le_refl _)
  rw [List.take_length] at nok low
  have d3 := (ok.nms _ hin).2.2
  have dn3 : dn ≤ 3 := d3
  have dS : (TB.nd ls (p, kept dn) way).2.length = dn := by rw [nok.2, hend, depOf_eq ok.nd hin]
  have hd1 := dk_els hd hP he1
  walk_at "tv"
  refine r2_isN ?_
  refine ⟨false, rfl, (fun z => nomatch z), fun _ => ?_⟩
  refine sw_next ?_
  refine sw_seq (sw_asg (ev_var rfl (gw_pair ?_)))
  walk_at "tv"
  refine ⟨x, ps, ls, p, dn, way, rfl, hd1, ok, hin, hp, ?_⟩
  refine gw_name ?_
  have wk : ∀ (t : List Int) (V2 : UU) (Q : W → UU → Prop), DkIs K V2 x (ownK ps ls) → t.length = dn → Q (.d (tm (mv (shI (TB.nd ls (p, kept dn) way).2) t))) V2 → p_walked K [x, .s p, .d (wyN way), .d (tm t)] V2 Q := fun t V2 Q h1 h2 h3 => ⟨x, ps, ls, p, dn, way, t, rfl, h1, ok, hin, hp, ne, hend, h2, h3⟩
  have rt : ∀ (V2 : UU) (Q : W → UU → Prop), Q (.t (told (TB.nd ls (p, kept dn) way).2)) V2 → p_ring_time K C_Plan [plW K C_Plan ps ls, .s p, .d (wyN way)] V2 Q := fun V2 Q h => ⟨ps, ls, p, dn, way, rfl, ok, hin, hp, ne, hend, h⟩
  generalize (TB.nd ls (p, kept dn) way).2 = S at *
  refine sw_seq (sw_asg (ev_lc (own_tup (owns_cons gname_mono (own_name (by simp)) (owns_cons (gtup_mono (gcons_mono gname_mono (gcons_mono gname_mono gnil_mono))) (own_tup (owns_cons gname_mono (own_name (by simp)) (owns_cons gname_mono (own_name (by simp)) owns_nil))) owns_nil))) (iw_enumT (ev_cons (ev_var rfl (ev_nil ?_))))))
  refine ⟨S.map wdN, rfl, fun j acc Vx => Vx = V ∧ acc = ((List.range j).filter fun i => match S[i]? with | some w => w.1 && decide (0 < w.2) | none => false).map fun i : Nat => PyData.int (i : Int), ⟨rfl, rfl⟩, ?_, ?_⟩
  · rintro j acc Vx hj hacc ⟨rfl, rfl⟩
    have hjb : j < S.length := by simpa using hj
    have hw : S[j]? = some S[j] := List.getElem?_eq_getElem hjb
    generalize S[j] = w at hw
    show GW K _ (.d (.tuple [.int (j : Nat), (S.map wdN).getD j .none])) _ _ _
    rw [getD_at hw]
    refine gw_pair ?_
    walk_at "tv"
    refine gw_pair ?_
    walk_at "tv"
    rw [sign_eqp]
    have st : (((List.range (j + 1)).filter fun i => match S[i]? with | some w => w.1 && decide (0 < w.2) | none => false).map fun i : Nat => PyData.int (i : Int)) = (((List.range j).filter fun i => match S[i]? with | some w => w.1 && decide (0 < w.2) | none => false).map fun i : Nat => PyData.int (i : Int)) ++ if (w.1 && decide (0 < w.2)) = true then [PyData.int (j : Int)] else [] := by
      rw [List.range_succ, List.filter_append, List.map_append]
      congr 1
      rw [List.filter_cons, hw]
      cases z : (w.1 && decide (0 < w.2)) <;> simp [z]
    refine ⟨w.1, rfl, fun h1 => ?_, fun h1 => ?_⟩
    · walk_at "tv"
      refine ⟨_, rfl, fun h2 => ?_, fun h2 => ?_⟩
      · walk_at "tv"
        refine ⟨_, rfl, Nat.lt_of_le_of_lt hacc (by rw [sizeLine_eq]; omega), rfl, ?_⟩
        rw [st, if_pos]
        rw [h1, Bool.true_and, decide_eq_true_eq]
        have := of_decide_eq_true h2
        omega
      · refine ⟨rfl, ?_⟩
        rw [st, if_neg, List.append_nil]
        rw [h1, Bool.true_and, decide_eq_true_eq]
        have := of_decide_eq_false h2
        omega
    · refine ⟨(fun z => nomatch z), fun _ => ⟨rfl, ?_⟩⟩
      rw [st, h1]
      simp
  rintro acc Vx _ ⟨rfl, rfl⟩
  rw [List.length_map, show ((List.range S.length).filter fun i => match S[i]? with | some w => w.1 && decide (0 < w.2) | none => false) = rsd S from rfl]
  refine gw_name ?_
  refine sw_seq (sw_asg ?_)
  refine ev_callP ?_
  walk_at "tv"
  refine rt _ _ ?_
  refine gw_name ?_
  refine sw_seqC (fun ρ Z => ρ = [some (.r a), some x, some (plW K C_Plan ps ls), some (.t [.str p, wyN way]), some (.s p), some (.d (wyN way)), some (.d (shN S)), some (.l ((rsd S).map fun i : Nat => PyData.int (i : Int))), some (.t (told S)), none, none, none, none, none] ∧ Z = Vx ∧ rsd S = []) ?_ ?_
  · refine sw_if (et_test (ev_op (ev_var rfl (ev_lst (ev_nil ⟨[], rfl, (show 0 ≤ sizeLine by decide), ?_⟩)))))
    refine r2_neD (natL_shaped _) (by decide +kernel) ?_
    rw [list_nil]
    refine ⟨_, rfl, fun h1 => ?_, fun h1 => ?_⟩
    · cases hr : rsd S with
      | nil => rw [hr] at h1; cases h1
      | cons i r =>
        obtain ⟨e1, e2⟩ := rsd_cons hr
        have et : told S = [.str "rises", .int (i : Int)] := by rw [told, e1]
        have okt : Ok 400 2 (.tuple [.str "rises", .int (i : Int)]) := ok_tup ((okAll_cons (ok_str (n := 5) (by decide +kernel) (by decide +kernel)) (okAll_cons (ok_int (by omega)) okAll_nil)).mono (by decide) (by decide))
        walk_at "tv"
        rw [et]
        refine rl_reprTok okt (by decide) (by decide) ?_
        walk_at "tv"
        refine r2_ixL (x := .int (i : Int)) (atI_at (i := 0) rfl) ?_
        walk_at "tv"
        refine ⟨[.str "rises", .int (i : Int)], rfl, (show 2 ≤ sizeLine by decide), ?_⟩
        walk_at "tv"
        refine rl_reprTok okt (by decide) (by decide) ?_
        walk_at "tv"
        rw [decide_eq_true rfl]
        exact q Vx he1 (hP1.mono (by omega))
    · refine sw_next ⟨rfl, rfl, ?_⟩
      rw [Bool.not_eq_false', decide_eq_true_eq] at h1
      exact h1
  rintro ρ Z ⟨rfl, rfl, hr⟩
  obtain ⟨zero, e1⟩ := rsd_nil hr
  have et : told S = [.str "stays", tm (leastN S)] := by rw [told, e1, stays_eq zero]
  have lz : (leastN S).length = dn := by rw [List.length_map]; exact dS
  refine sw_seq (sw_asg (ev_cb (ev_cons ?_)))
  refine ev_lcT (xs := S) (h := wdN) (f := fun w => .int (if w.1 = true then (0 : Int) else (w.2 : Int))) (own_tup (owns_cons gname_mono (own_name (by simp)) (owns_cons gname_mono (own_name (by simp)) owns_nil))) ?_
  refine ev_var rfl ⟨rfl, by rw [sizeLine_eq]; omega, fun i w hw => ?_, ?_⟩
  · unfold Turn1
    refine gw_pair ?_
    walk_at "tv"
    refine ⟨rfl, ?_⟩
    walk_at "tv"
    rw [sign_eqp]
    refine ⟨w.1, rfl, fun h1 => ?_, fun h1 => ?_⟩
    · walk_at "tv"
      exact ⟨by rw [if_pos h1], rfl⟩
    · walk_at "tv"
      exact ⟨by rw [if_neg (by rw [h1]; exact Bool.false_ne_true)], rfl⟩
  refine ev_nil (rl_tupL (gw_name ?_))
  rw [show (S.map fun w => PyData.int (if w.1 = true then (0 : Int) else (w.2 : Int))) = (leastN S).map .int by rw [leastN, List.map_map]; rfl]
  have big : ∀ y ∈ leastN S, y.natAbs < 10 ^ 90 := fun y hy => by
    obtain ⟨w, hw, rfl⟩ := List.mem_map.mp hy
    have := low w hw
    have h12 : w.2 ≤ 36 := by omega
    split <;> omega
  have okt : Ok 500 3 (.tuple [.str "stays", tm (leastN S)]) := ok_tup ((okAll_cons ((ok_str (n := 5) (by decide +kernel) (by decide +kernel)).mono (Nat.le_refl _) (by decide)) (okAll_cons (ok_tm big (by omega)) okAll_nil)).mono (by decide) (by decide))
  refine sw_seq (sw_if (et_or (et_test (ev_op (ev_cb (ev_cons (ev_var rfl (ev_nil ?_))))))))
  rw [et]
  refine rl_reprTok okt (by decide) (by decide) ?_
  walk_at "tv"
  refine ⟨[.str "stays", tm (leastN S)], rfl, (show 2 ≤ sizeLine by decide), ?_⟩
  walk_at "tv"
  refine rl_reprTok okt (by decide) (by decide) ?_
  walk_at "tv"
  rw [decide_eq_true rfl]
  refine ⟨false, rfl, fun _ => ?_, fun z => nomatch z⟩
  walk_at "tv"
  refine wk (leastN S) _ _ hd1 lz ?_
  walk_at "tv"
  refine ⟨_, _, rfl, by rw [mv_len', shI, List.length_map]; omega, ?_⟩
  rw [walk_least zero, atMost_self]
  refine ⟨true, rfl, (fun z => nomatch z), fun _ => ?_⟩
  walk_at "tv"
  refine ⟨a, n + 30, (leastN S).length, 4, by rw [List.length_map]; rfl, hP1, by omega, by omega, by decide, fun t V2 t1 t2 hP2 he2 => ?_⟩
  have tl : t.length = dn := by rw [t1, lz]
  have hd2 := dk_els hd1 hP1 he2
  walk_at "tv"
  refine wk t _ _ hd2 tl ?_
  walk_at "tv"
  refine ⟨_, _, rfl, by rw [mv_len', shI, List.length_map]; omega, ?_⟩
  walk_at "tv"
  refine ⟨leastN S, t, rfl, by omega, ?_⟩
  refine r2_eqB ?_
  rw [stays_iff zero (by omega) (fun y hy => (t2 y hy).1), decide_eq_true rfl]
  exact q V2 (he1.trans he2) (hP2.mono (by omega))
theorem cal__law_right (B : Bi mg) (T : At K mg s__law_right "_law_right") (c_Plan___init__ : MCal Pg w K mg base C_Plan s_Plan___init__ "__init__" "Plan.__init__" 6 ["self", "text"] (p_plan_init K C_Plan)) (c__law_plan_text : Cal Pg w K mg base s__law_plan_text "_law_plan_text" 1 ["own"] (p_plan_text K)) (c__law_drawn : Cal Pg w K mg base s__law_drawn "_law_drawn" 6 ["pot", "most"] (p_drawn21 K)) (c__law_is_ring_right : Cal Pg w K mg base s__law_is_ring_right "_law_is_ring_right" 7 ["pot", "own", "plan"] (p_ring_right K C_Plan))  (cl_Plan : ClsAt K mg "Plan" C_Plan) : Cal Pg w K mg base s__law_right "_law_right" 8 ["pot"] p_right21 := by
  refine calW T sc__law_right (fun _ _ _ _ _ _ us hl => match us, hl with | [_], _ => rfl) (by rintro ws U P ⟨p, n, rfl, _⟩; rfl) (fun f cdv A outer s H E hr gd => ?_)
  have hu : (A.deeper (envOfC "_law_right" (defScope s__law_right) s.heap.objs.size f cdv)).units + 70 < cLine := by have := hr.un; omega
  refine ⟨_, (pss_cons (ps_set (i := 1) sc__law_right.nd rfl (.inr rfl) (pe_callC c__law_drawn hr gd (by rfl) (pa_cons (pv 0) (pa_cons pe_int pa_nil))))
      (pss_cons (ps_set (i := 2) sc__law_right.nd rfl (.inr rfl) (pe_mk1 cl_Plan c_Plan___init__ hr gd (by rfl) (pa_cons (pe_callC c__law_plan_text hr gd (by rfl) (pa_cons (pv 1) pa_nil)) pa_nil)))
      (pss_one (ps_ret (pe_callB (bAll K rfl) (by rfl) B.all (by decide +kernel) (pa_cons (pe_lc (own := [("lap", 3)]) rfl sc__law_right.nd (pi_range1 (by rfl) B.range (pa_cons pe_int pa_nil)) (blkOk_by (N := N__law_right) (sc := defScope s__law_right) (by decide +kernel)) (fun _ _ _ _ _ => (pg_name (i := 3) sc__law_right.nd rfl (.inl rfl))) (fun _ _ _ _ _ => pts_nil) (fun _ _ _ _ _ => (pe_callC c__law_is_ring_right hr gd (by rfl) (pa_cons (pv 0) (pa_cons (pv 1) (pa_cons (pv 2) pa_nil)))))) pa_nil)))))), fun ws U P h => ?_⟩
  try dsimp only [cxOf, Cx.nox]
  obtain ⟨a, n, rfl, hP, hn, q⟩ := h
  walk_at "tv"
  refine ⟨a, n, 5, rfl, hP, by omega, by decide, by decide, fun d ps ls U1 nda ok nmx pm lsm hP1 hd1 hUd hE1 => ?_⟩
  refine gw_name ?_
  have dk : DkIs K U1 (.r d) (ownK ps ls) := .inl ⟨d, rfl, hd1⟩
  refine sw_seq (sw_asg (ev_makeF ?_))
  walk_at "tv"
  refine ⟨.r d, ps, ls, rfl, dk, ok, ?_⟩
  walk_at "tv"
  intro x dx hx hdx ne
  refine ⟨x, dx, ps, ls, rfl, put_same, ok, text_ok ok, rfl, planF K ps ls, put_same, by rw [put_ne ne, put_ne ne, put_same], ?_⟩
  rw [cut_new hx hdx]
  refine gw_name ?_
  refine sw_ret (ev_less (ev_cb (ev_cons (ev_lc (own_name (by simp)) (iw_rng1 ?_)))))
  walk_at "tv"
  refine ⟨5, rfl, by decide, by decide, fun i acc Z => acc = (List.replicate i true).map .bool ∧ Pt Z a (n + 1001 + 40 * i) ∧ Els a U1 Z, ⟨rfl, hP1, Els.refl⟩, ?_, ?_⟩
  · rintro i acc Z hi hacc ⟨rfl, hPZ, heZ⟩
    have hi5 : i < 5 := by simpa using hi
    refine gw_name ?_
    walk_at "tv"
    refine ⟨fun _ => ?_, fun z => nomatch z⟩
    walk_at "tv"
    refine ⟨a, n + 1001 + 40 * i, .r d, ps, ls, rfl, hPZ, by omega, dk_els dk hP1 heZ, ok, fun Z2 he2 hP2 => ?_⟩
    refine ⟨_, rfl, Nat.lt_of_le_of_lt hacc (by rw [sizeLine_eq]; omega), ?_, hP2.mono (by omega), heZ.trans he2⟩
    rw [List.replicate_succ', List.map_append]
    rfl
  · rintro acc Z _ ⟨rfl, hPZ, heZ⟩
    walk_at "tv"
    refine rl_all ?_
    rw [show (List.replicate ((5 : Int)).toNat true).all id = true by simp]
    refine ⟨fun c => if c = a then Z a else U c, fun c b z => ?_, q _ (fun c hc => if_neg hc) ?_⟩
    · have z : (if c = a then Z a else U c) = some b := z
      by_cases z2 : c = a
      · rw [if_pos z2] at z
        rw [z2]
        exact z
      · rw [if_neg z2] at z
        have c1 : c ≠ d := fun y => by rw [y, hUd] at z; cases z
        rw [heZ c z2, hE1 c z2 c1]
        exact z
    · obtain ⟨e1, e2, e3, e4, e5⟩ := hPZ
      exact ⟨e1, e2, e3, by show (if a = a then Z a else U a) = _; rw [if_pos rfl]; exact e4, { e5 with c1 := by have := e5.c1; have : ((5 : Int)).toNat = 5 := rfl; omega }⟩
theorem cal_law (B : Bi mg) (T : At K mg s_law "law") (c__law_pot : Cal Pg w K mg base s__law_pot "_law_pot" 1 ["script", "place"] pPot) (c__law_cells : Cal Pg w K mg base s__law_cells "_law_cells" 1 ["script", "most"] (pCells 3)) (c__law_right : Cal Pg w K mg base s__law_right "_law_right" 8 ["pot"] p_right21)   : Cal Pg w K mg base s_law "law" 9 ["script"] pLaw := by
  refine calW T sc_law (fun _ _ _ _ _ _ us hl => match us, hl with | [_], _ => rfl) (by rintro ws U P ⟨l, rfl, _⟩; rfl) (fun f cdv A outer s H E hr gd => ?_)
  have hu : (A.deeper (envOfC "law" (defScope s_law) s.heap.objs.size f cdv)).units + 70 < cLine := by have := hr.un; omega
  refine ⟨_, (pss_cons (ps_setLc (i := 1) (own := [("place", 2)]) rfl sc_law.nd rfl rfl (sw_true rfl rfl rfl (by decide +kernel)) (piL K (pe_callC c__law_cells hr gd (by rfl) (pa_cons (pv 0) (pa_cons pe_int pa_nil)))) (blkOk_by (N := N_law) (sc := defScope s_law) (by decide +kernel)) (fun _ _ _ _ _ => (pg_name (i := 2) sc_law.nd rfl (.inl rfl))) (fun _ _ _ _ _ => pts_nil) (fun _ _ _ _ _ => (pe_callC c__law_pot hr gd (by rfl) (pa_cons (pv 0) (pa_cons (pv 2) pa_nil)))))
      (pss_one (ps_ret (pe_callB (bAll K rfl) (by rfl) B.all (by decide +kernel) (pa_cons (pe_lc (own := [("pot", 3)]) rfl sc_law.nd (piL K (pv 1)) (blkOk_by (N := N_law) (sc := defScope s_law) (by decide +kernel)) (fun _ _ _ _ _ => (pg_name (i := 3) sc_law.nd rfl (.inr rfl))) (fun _ _ _ _ _ => pts_nil) (fun _ _ _ _ _ => (pe_callB (bAll K rfl) (by rfl) B.all (by decide +kernel) (pa_cons (pe_lc (own := [("lap", 4)]) rfl sc_law.nd (pi_range1 (by rfl) B.range (pa_cons pe_int pa_nil)) (blkOk_by (N := N_law) (sc := { kind := .function, names := [(".0", .local), ("pot", .cell), ("all", .globalImplicit), ("range", .globalImplicit)], isGenerator := false, isCoroutine := false }) (by decide +kernel)) (fun _ _ _ _ _ => (pg_name (i := 4) sc_law.nd rfl (.inl rfl))) (fun _ _ _ _ _ => pts_nil) (fun _ _ _ _ _ => (pe_callC c__law_right hr gd (by rfl) (pa_cons (pv 3) pa_nil)))) pa_nil)))) pa_nil))))), fun ws U P h => ?_⟩
  try dsimp only [cxOf, Cx.nox]
  obtain ⟨ns, rfl, hn, q⟩ := h
  show SW K (tSeq _ _) [some (.l (ns.map .int)), none, none, none, none] U (retE P)
  refine sw_seq (sw_asg (ev_lcD (own_name (by simp)) (iw_list ?_)))
  walk_at "tv"
  refine ⟨ns, rfl, fun k k1 k2 => ?_⟩
  have hk : k ≤ 10 := by omega
  have hz : (rgD 0 (k : Int)).length = k := by simp [rgD]
  refine ⟨rgD 0 k, rfl, fun D hD => ?_⟩
  rw [hz]
  refine ⟨fun i V => ∃ ps : List Addr, ps.length = i ∧ V D = some (.l (ps.map W.r)) ∧ ps.Nodup ∧ D ∉ ps ∧ ∀ p ∈ ps, Pt V p 0, ⟨[], rfl, put_same, List.nodup_nil, by simp, by simp⟩, ?_, ?_⟩
  · rintro i V hi ⟨ps, hl, hV, nd, nD, hp⟩
    have ei : (rgD 0 (k : Int)).getD i .none = .int (i : Int) := by
      simp [rgD, List.getD_eq_getElem?_getD, hi]
    show GW K _ (.d ((rgD 0 (k : Int)).getD i .none)) _ _ _
    rw [ei]
    walk_at "tv"
    refine ⟨fun _ => ?_, fun z => nomatch z⟩
    walk_at "tv"
    refine ⟨ns, i, rfl, by omega, fun p V1 h0 hP he => ?_⟩
    have pD : D ≠ p := fun z => by rw [← z, hV] at h0; cases h0
    have pn : p ∉ ps := fun z => by
      obtain ⟨a, b, c, e, _⟩ := hp p z
      rw [h0] at e
      cases e
    refine ⟨ps.map W.r, by rw [he D pD]; exact hV, by rw [List.length_map]; exact small1000 (by omega), ps ++ [p], by simp [hl], by rw [put_same, List.map_append]; rfl, List.nodup_append.mpr ⟨nd, by simp, fun x hx y hy z => pn (by rw [List.mem_singleton.mp hy] at z; exact z ▸ hx)⟩, fun z => by
      rcases List.mem_append.mp z with z | z
      · exact nD z
      · exact pD (List.mem_singleton.mp z), fun x hx => ?_⟩
    have key : ∀ y, y ≠ D → Pt V1 y 0 → Pt (put V1 D (.l (ps.map W.r ++ [.r p]))) y 0 := fun y yD ⟨a, b, c, e, o⟩ => ⟨a, b, c, by rw [put_ne yD]; exact e, o⟩
    rcases List.mem_append.mp hx with z | z
    · refine key x (fun e => nD (e ▸ z)) ?_
      exact (hp x z).els he (fun e => pn (e ▸ z))
    · rw [List.mem_singleton.mp z]
      exact key p pD.symm hP
  rintro V ⟨ps, hl, hV, nd, nD, hp⟩
  refine gw_name ?_
  show SW K (tRet _) [some (.l (ns.map .int)), some (.r D), none, none, none] V (retE P)
  refine sw_ret (ev_cb (ev_cons (ev_frz (ev_lcMM (own_name (by simp)) (ev_var rfl ⟨D, ps.map W.r, rfl, hV, fun D2 hD2 => ?_⟩)))))
  have n2 : ∀ p ∈ ps, p ≠ D2 := fun p hm z => by
    obtain ⟨a, b, c, e, _⟩ := hp p hm
    rw [z, hD2] at e
    cases e
  have nDD : D ≠ D2 := fun z => by rw [← z, hV] at hD2; cases hD2
  refine ⟨fun i V' => V' D = some (.l (ps.map W.r)) ∧ V' D2 = some (.l ((List.replicate i (PyData.bool true)).map W.d)) ∧ ∀ j p, i ≤ j → ps[j]? = some p → Pt V' p 0, ⟨by rw [put_ne nDD]; exact hV, put_same, fun j p _ hj => ?_⟩, fun i V' h => h.1, ?_, ?_⟩
  · obtain ⟨a, b, c, e, o⟩ := hp p (List.mem_of_getElem? hj)
    exact ⟨a, b, c, by rw [put_ne (n2 p (List.mem_of_getElem? hj))]; exact e, o⟩
  · rintro i V' w hw ⟨i1, i2, i3⟩
    rw [List.getElem?_map] at hw
    obtain ⟨p, hpi, rfl⟩ := Option.map_eq_some_iff.mp hw
    have il : i < ps.length := (List.getElem?_eq_some_iff.mp hpi).1
    have hP := i3 i p (Nat.le_refl _) hpi
    have pm := List.mem_of_getElem? hpi
    have pD : p ≠ D := fun z => nD (z ▸ pm)
    refine gw_name ?_
    walk_at "tv"
    refine ⟨fun _ => ?_, fun z => nomatch z⟩
    refine ev_cb (ev_cons (ev_lc (own_name (by simp)) (iw_rng1 ?_)))
    walk_at "tv"
    refine ⟨2, rfl, by decide, by decide, fun j acc W => acc = (List.replicate j true).map .bool ∧ Pt W p (1300 * j) ∧ Els p V' W, ⟨rfl, hP, Els.refl⟩, ?_, ?_⟩
    · rintro j acc W hj ha ⟨rfl, hPW, he⟩
      have hj3 : j < 2 := by simpa using hj
      refine gw_name ?_
      walk_at "tv"
      refine ⟨fun _ => ?_, fun z => nomatch z⟩
      walk_at "tv"
      refine ⟨p, 1300 * j, rfl, hPW, by omega, fun W' he' hP' => ⟨_, rfl, Nat.lt_of_le_of_lt ha (by rw [sizeLine_eq]; omega), ?_, hP', he.trans he'⟩⟩
      rw [List.replicate_succ', List.map_append]
      rfl
    · rintro acc W _ ⟨rfl, hPW, he⟩
      walk_at "tv"
      refine rl_all ?_
      rw [show (List.replicate ((2 : Int)).toNat true).all id = true by simp]
      refine ⟨_, by rw [he D2 (n2 p pm).symm]; exact i2, by rw [List.length_map, List.length_replicate]; exact small1000 (by omega), by rw [put_ne nDD, he D pD.symm]; exact i1, by rw [put_same, List.replicate_succ', List.map_append]; rfl, fun j p' hj hp' => ?_⟩
      have ne : p' ≠ p := fun z => by
        subst z
        have e := (List.getElem?_inj il nd).mp (hpi.trans hp'.symm)
        omega
      obtain ⟨a, b, c, e, o⟩ := (i3 j p' (by omega) hp').els he ne
      exact ⟨a, b, c, by rw [put_ne (n2 p' (List.mem_of_getElem? hp'))]; exact e, o⟩
  · rintro V' ⟨_, h2, _⟩
    refine ⟨D2, _, rfl, h2, ?_⟩
    walk_at "tv"
    rw [List.length_map, show List.replicate ps.length (PyData.bool true) = (List.replicate ps.length true).map .bool by rw [List.map_replicate]]
    refine rl_all ?_
    rw [show (List.replicate ps.length true).all id = true by simp]
    exact q _
theorem cal_Plan___init__ (B : Bi mg) (T : MAt K C_Plan s_Plan___init__ "__init__" "Plan.__init__") (c_plan_rows : Cal Pg w K mg base s_plan_rows "plan_rows" 5 ["text"] (p_plan_rows K))  (cl_Plan : ClsAt K mg "Plan" C_Plan) (na_text : NoAttr K C_Plan "text") (na_places : NoAttr K C_Plan "places") (na_lines : NoAttr K C_Plan "lines") : MCal Pg w K mg base C_Plan s_Plan___init__ "__init__" "Plan.__init__" 6 ["self", "text"] (p_plan_init K C_Plan) := by
  refine mcalW T sc_Plan___init__ (fun _ _ _ _ _ _ us hl => match us, hl with | [_, _], _ => rfl) (by rintro ws U P ⟨x, dx, ps, ls, rfl, _⟩; rfl) (fun f cdv A outer s H E hr gd => ?_)
  have hu : (A.deeper (envOfC "Plan.__init__" (defScope s_Plan___init__) s.heap.objs.size f cdv)).units + 70 < cLine := by have := hr.un; omega
  refine ⟨_, (pss_cons (ps_if (pt_not (pt_val (pe_callB (bIsi K) (by rfl) B.isinstance (by decide +kernel) (pa_cons (pv 1) (pa_cons (pe_bltn (v := .ty "str") (u := .type "str") (by rfl) B.str (by decide +kernel) rfl) pa_nil)))))
        (pss_one ps_never)
        pss_nil)
      (pss_cons (ps_asg (pe_callC c_plan_rows hr gd (by rfl) (pa_cons (pv 1) pa_nil)) (pgT K (n := 2) rfl (pgs_cons (pg_name (i := 2) sc_Plan___init__.nd rfl (.inl rfl)) (pgs_cons (pg_name (i := 3) sc_Plan___init__.nd rfl (.inl rfl)) pgs_nil))))
      (pss_cons (psFld K (pv 0) (pv 1) rfl)
      (pss_cons (psFld K (pv 0) (pv 2) rfl)
      (pss_one (psFld K (pv 0) (pv 3) rfl)))))), fun ws U P h => ?_⟩
  try dsimp only [cxOf, Cx.nox]
  obtain ⟨x, dx, ps, ls, rfl, hx, ok, tx, q⟩ := h
  walk_at "tv"
  refine ⟨true, rfl, (fun z => nomatch z), fun _ => ?_⟩
  walk_at "tv"
  refine ⟨ps, ls, rfl, ok, tx, ?_⟩
  refine gw_tupW rfl ?_
  refine gsw_cons (gw_name (gsw_cons (gw_name (gsw_nil ?_))))
  show SW K (tSeq _ _) [some (.r x), some (.s (own_text ps ls)), some (.pt K (plKv ps)), some (.t (ls.map lnD))] U (retE P)
  refine sw_seq (sw_fld (ev_var rfl (ev_var rfl ⟨x, C_Plan, dx, [], rfl, hx, cl_Plan.c, na_text, by decide, by simp, ?_⟩)))
  show SW K (tSeq _ _) [some (.r x), some (.s (own_text ps ls)), some (.pt K (plKv ps)), some (.t (ls.map lnD))] _ (retE P)
  refine sw_seq (sw_fld (ev_var rfl (ev_var rfl ⟨x, C_Plan, dx, [("text", .s (own_text ps ls))], rfl, put_same, cl_Plan.c, na_places, by show 1 < 1000; decide, ?_, ?_⟩)))
  · intro g hg
    rw [List.mem_singleton.mp hg]
    exact ne_tp
  rw [put_put]
  show SW K (sFld K _ _ _) [some (.r x), some (.s (own_text ps ls)), some (.pt K (plKv ps)), some (.t (ls.map lnD))] _ (retE P)
  refine sw_fld (ev_var rfl (ev_var rfl ⟨x, C_Plan, dx, [("text", .s (own_text ps ls)), ("places", .pt K (plKv ps))], rfl, put_same, cl_Plan.c, na_lines, by show 2 < 1000; decide, ?_, ?_⟩))
  · intro g hg
    rcases List.mem_cons.mp hg with z | z
    · rw [z]
      exact ne_tl
    · rw [List.mem_singleton.mp z]
      exact ne_pl
  rw [put_put]
  exact q
theorem cal_Plan___contains__ (B : Bi mg) (T : MAt K C_Plan s_Plan___contains__ "__contains__" "Plan.__contains__")   (cl_Plan : ClsAt K mg "Plan" C_Plan) (na_text : NoAttr K C_Plan "text") (na_places : NoAttr K C_Plan "places") (na_lines : NoAttr K C_Plan "lines") : MCal Pg w K mg base C_Plan s_Plan___contains__ "__contains__" "Plan.__contains__" 1 ["self", "value"] (p_plan_contains K C_Plan) := by
  refine mcalW T sc_Plan___contains__ (fun _ _ _ _ _ _ us hl => match us, hl with | [_, _], _ => rfl) (by rintro ws U P ⟨ps, ls, x, rfl, _⟩; rfl) (fun f cdv A outer s H E hr gd => ?_)
  have hu : (A.deeper (envOfC "Plan.__contains__" (defScope s_Plan___contains__) s.heap.objs.size f cdv)).units + 70 < cLine := by have := hr.un; omega
  refine ⟨_, (pss_one (ps_ret (pe_and (pe_callB (bIsi K) (by rfl) B.isinstance (by decide +kernel) (pa_cons (pv 1) (pa_cons (pe_bltn (v := .ty "str") (u := .type "str") (by rfl) B.str (by decide +kernel) rfl) pa_nil))) (pe_one (pe_cmpR (opIn K) (pv 1) (pe_lc (own := [("name", 2), ("depth", 3)]) rfl sc_Plan___contains__.nd (piT K (peFld K (pv 0))) (blkOk_by (N := N_Plan___contains__) (sc := defScope s_Plan___contains__) (by decide +kernel)) (fun _ _ _ _ _ => (pgT K (n := 2) rfl (pgs_cons (pg_name (i := 2) sc_Plan___contains__.nd rfl (.inl rfl)) (pgs_cons (pg_name (i := 3) sc_Plan___contains__.nd rfl (.inl rfl)) pgs_nil)))) (fun _ _ _ _ _ => pts_nil) (fun _ _ _ _ _ => (pv 2))) (by rfl)))))), fun ws U P h => ?_⟩
  try dsimp only [cxOf, Cx.nox]
  obtain ⟨ps, ls, x, rfl, hz, q⟩ := h
  walk_at "tv"
  refine ⟨true, rfl, fun _ => ?_, fun z => nomatch z⟩
  walk_at "tv"
  refine ev_lcT (xs := ps) (h := fun p => .tuple [.str p.1, .int (p.2 : Int)]) (f := fun p => .str p.1) (own_tup (owns_cons gname_mono (own_name (by simp)) (owns_cons gname_mono (own_name (by simp)) owns_nil))) ?_
  refine ev_ptT (ev_fld (ev_var rfl ⟨C_Plan, planF K ps ls, _, .inr rfl, cl_Plan.c, na_places, planF_places, plKv ps, rfl, ?_, small1000 (by omega), fun i p hp => ?_, ?_⟩))
  · rw [plKv, List.map_map]
    rfl
  · unfold Turn1
    refine gw_pair ?_
    walk_at "tv"
    refine ⟨rfl, ?_⟩
    walk_at "tv"
    exact ⟨rfl, rfl⟩
  · rw [show (ps.map fun p => PyData.str p.1) = (ps.map (·.1)).map .str by rw [List.map_map]; rfl]
    refine r2_inSs (.inr rfl) ?_
    rw [if_neg Bool.false_ne_true]
    exact q
end
end K21

namespace K21
open PySem PySem.Spec PyProof.Rows L2 RZ Tv
theorem all_mk {Pg : Program} {w : World} {K : PySem.W.Frag} {h : Heap} {mg : Str → Option Value} {fa : Addr} {C_Plan : Addr} (hfa : mg "law" = some (.ref fa)) (B : Bi mg) (t_is_integer : At K mg s_is_integer "is_integer") (t_is_name : At K mg s_is_name "is_name") (t_is_long_numeral : At K mg s_is_long_numeral "is_long_numeral") (t_is_numeral : At K mg s_is_numeral "is_numeral") (t_is_depth : At K mg s_is_depth "is_depth") (t_check_depth : At K mg s_check_depth "check_depth") (t_kept_shift : At K mg s_kept_shift "kept_shift") (t_raised_word : At K mg s_raised_word "raised_word") (t_joined_words : At K mg s_joined_words "joined_words") (t_is_place_row : At K mg s_is_place_row "is_place_row") (t_is_shift_word : At K mg s_is_shift_word "is_shift_word") (t_is_line_row : At K mg s_is_line_row "is_line_row") (t_plan_rows : At K mg s_plan_rows "plan_rows") (t_Plan___contains__ : MAt K C_Plan s_Plan___contains__ "__contains__" "Plan.__contains__") (t_check_place : At K mg s_check_place "check_place") (t_depth_of : At K mg s_depth_of "depth_of") (t_way_end : At K mg s_way_end "way_end") (t_joined_way : At K mg s_joined_way "joined_way") (t_is_ring : At K mg s_is_ring "is_ring") (t_ring_time : At K mg s_ring_time "ring_time") (t__law_pot : At K mg s__law_pot "_law_pot") (t__law_take : At K mg s__law_take "_law_take") (t__law_of : At K mg s__law_of "_law_of") (t__law_cells : At K mg s__law_cells "_law_cells") (t__law_at_most : At K mg s__law_at_most "_law_at_most") (t__law_shifted : At K mg s__law_shifted "_law_shifted") (t__law_depth : At K mg s__law_depth "_law_depth") (t__law_joined_shift : At K mg s__law_joined_shift "_law_joined_shift") (t__law_is_below : At K mg s__law_is_below "_law_is_below") (t__law_tables : At K mg s__law_tables "_law_tables") (t__law_stood : At K mg s__law_stood "_law_stood") (t__law_standings : At K mg s__law_standings "_law_standings") (t__law_names : At K mg s__law_names "_law_names") (t__law_shift : At K mg s__law_shift "_law_shift") (t__law_any_plan : At K mg s__law_any_plan "_law_any_plan") (t__law_plan : At K mg s__law_plan "_law_plan") (t__law_plan_text : At K mg s__law_plan_text "_law_plan_text") (t__law_time : At K mg s__law_time "_law_time") (t__law_walked : At K mg s__law_walked "_law_walked") (t__law_ring : At K mg s__law_ring "_law_ring") (t__law_drawn : At K mg s__law_drawn "_law_drawn") (t__law_way_shift : At K mg s__law_way_shift "_law_way_shift") (t__law_is_ring_right : At K mg s__law_is_ring_right "_law_is_ring_right") (t_Plan___init__ : MAt K C_Plan s_Plan___init__ "__init__" "Plan.__init__") (t__law_right : At K mg s__law_right "_law_right") (t_law : At K mg s_law "law") (c_MOST_FIGURES : KC_MOST_FIGURES K mg) (c_MOST_PLACES : KC_MOST_PLACES K mg) (c_MOST_LINES : KC_MOST_LINES K mg) (c_LETTERS : KC_LETTERS K mg) (c_FIGURES : KC_FIGURES K mg) (c_DEPTHS : KC_DEPTHS K mg) (cl_Plan : ClsAt K mg "Plan" C_Plan) (na_text : NoAttr K C_Plan "text") (na_places : NoAttr K C_Plan "places") (na_lines : NoAttr K C_Plan "lines") :
    ∃ fd : FuncData, (∀ (s : Shared) (u : Value), BindsTo s fd ⟨[u], []⟩ [("script", u)]) ∧ ∀ base : Heap, K.In base → base.Ns mainGlobals mg → FnG Pg w K mg base CX0 9 fa fd ["script"] (spW K pLaw) := by
  refine law_mk t_law hfa (fun base => ?_) h
  have c_is_integer := cal_is_integer (Pg := Pg) (w := w) (base := base) B t_is_integer 
  have c_is_name := cal_is_name (Pg := Pg) (w := w) (base := base) B t_is_name c_LETTERS
  have c_is_long_numeral := cal_is_long_numeral (Pg := Pg) (w := w) (base := base) B t_is_long_numeral c_FIGURES
  have c_is_numeral := cal_is_numeral (Pg := Pg) (w := w) (base := base) B t_is_numeral c_is_long_numeral c_MOST_FIGURES
  have c_is_depth := cal_is_depth (Pg := Pg) (w := w) (base := base) B t_is_depth c_is_integer
  have c_check_depth := cal_check_depth (Pg := Pg) (w := w) (base := base) B t_check_depth c_is_depth
  have c_kept_shift := cal_kept_shift (Pg := Pg) (w := w) (base := base) B t_kept_shift c_check_depth
  have c_raised_word := cal_raised_word (Pg := Pg) (w := w) (base := base) B t_raised_word 
  have c_joined_words := cal_joined_words (Pg := Pg) (w := w) (base := base) B t_joined_words c_raised_word
  have c_is_place_row := cal_is_place_row (Pg := Pg) (w := w) (base := base) B t_is_place_row c_is_name c_DEPTHS c_MOST_PLACES
  have c_is_shift_word := cal_is_shift_word (Pg := Pg) (w := w) (base := base) B t_is_shift_word c_is_numeral
  have c_is_line_row := cal_is_line_row (Pg := Pg) (w := w) (base := base) B t_is_line_row c_is_shift_word
  have c_plan_rows := cal_plan_rows (Pg := Pg) (w := w) (base := base) B t_plan_rows c_is_place_row c_is_line_row c_MOST_LINES
  have c_Plan___contains__ := cal_Plan___contains__ (Pg := Pg) (w := w) (base := base) B t_Plan___contains__ cl_Plan na_text na_places na_lines
  have c_check_place := cal_check_place (Pg := Pg) (w := w) (base := base) B t_check_place c_Plan___contains__ cl_Plan na_text na_places na_lines
  have c_depth_of := cal_depth_of (Pg := Pg) (w := w) (base := base) B t_depth_of c_check_place cl_Plan na_text na_places na_lines
  have c_way_end := cal_way_end (Pg := Pg) (w := w) (base := base) B t_way_end c_is_integer cl_Plan na_text na_places na_lines
  have c_joined_way := cal_joined_way (Pg := Pg) (w := w) (base := base) B t_joined_way c_kept_shift c_joined_words c_depth_of cl_Plan na_text na_places na_lines
  have c_is_ring := cal_is_ring (Pg := Pg) (w := w) (base := base) B t_is_ring c_way_end cl_Plan na_text na_places na_lines
  have c_ring_time := cal_ring_time (Pg := Pg) (w := w) (base := base) B t_ring_time c_check_place c_joined_way c_is_ring cl_Plan na_text na_places na_lines
  have c__law_pot := cal__law_pot (Pg := Pg) (w := w) (base := base) B t__law_pot 
  have c__law_take := cal__law_take (Pg := Pg) (w := w) (base := base) B t__law_take 
  have c__law_of := cal__law_of (Pg := Pg) (w := w) (base := base) B t__law_of c__law_take
  have c__law_cells := cal__law_cells (Pg := Pg) (w := w) (base := base) B t__law_cells 
  have c__law_at_most := cal__law_at_most (Pg := Pg) (w := w) (base := base) B t__law_at_most 
  have c__law_shifted := cal__law_shifted (Pg := Pg) (w := w) (base := base) B t__law_shifted 
  have c__law_depth := cal__law_depth (Pg := Pg) (w := w) (base := base) B t__law_depth 
  have c__law_joined_shift := cal__law_joined_shift (Pg := Pg) (w := w) (base := base) B t__law_joined_shift 
  have c__law_is_below := cal__law_is_below (Pg := Pg) (w := w) (base := base) B t__law_is_below 
  have c__law_tables := cal__law_tables (Pg := Pg) (w := w) (base := base) B t__law_tables c__law_depth c__law_joined_shift c__law_is_below
  have c__law_stood := cal__law_stood (Pg := Pg) (w := w) (base := base) B t__law_stood 
  have c__law_standings := cal__law_standings (Pg := Pg) (w := w) (base := base) B t__law_standings c__law_depth c__law_stood
  have c__law_names := cal__law_names (Pg := Pg) (w := w) (base := base) B t__law_names c__law_take c__law_of
  have c__law_shift := cal__law_shift (Pg := Pg) (w := w) (base := base) B t__law_shift c__law_take c__law_of
  have c__law_any_plan := cal__law_any_plan (Pg := Pg) (w := w) (base := base) B t__law_any_plan c__law_take c__law_of c__law_names c__law_shift
  have c__law_plan := cal__law_plan (Pg := Pg) (w := w) (base := base) B t__law_plan c__law_tables c__law_standings c__law_any_plan
  have c__law_plan_text := cal__law_plan_text (Pg := Pg) (w := w) (base := base) B t__law_plan_text 
  have c__law_time := cal__law_time (Pg := Pg) (w := w) (base := base) B t__law_time c__law_take
  have c__law_walked := cal__law_walked (Pg := Pg) (w := w) (base := base) B t__law_walked c__law_shifted
  have c__law_ring := cal__law_ring (Pg := Pg) (w := w) (base := base) B t__law_ring c__law_take c__law_of
  have c__law_drawn := cal__law_drawn (Pg := Pg) (w := w) (base := base) B t__law_drawn c__law_take c__law_any_plan c__law_plan
  have c__law_way_shift := cal__law_way_shift (Pg := Pg) (w := w) (base := base) B t__law_way_shift c__law_depth c__law_joined_shift
  have c__law_is_ring_right := cal__law_is_ring_right (Pg := Pg) (w := w) (base := base) B t__law_is_ring_right c_ring_time c__law_at_most c__law_time c__law_walked c__law_ring c__law_way_shift cl_Plan na_text na_places na_lines
  have c_Plan___init__ := cal_Plan___init__ (Pg := Pg) (w := w) (base := base) B t_Plan___init__ c_plan_rows cl_Plan na_text na_places na_lines
  have c__law_right := cal__law_right (Pg := Pg) (w := w) (base := base) B t__law_right c_Plan___init__ c__law_plan_text c__law_drawn c__law_is_ring_right cl_Plan
  have c_law := cal_law (Pg := Pg) (w := w) (base := base) B t_law c__law_pot c__law_cells c__law_right
  exact c_law
end K21
open PySem PySem.W PyProof.Rows
set_option maxRecDepth 100000 in
set_option maxHeartbeats 0 in
theorem PySem.Challenge.cw_timesover_k21_times_of_rings_holds : PySem.Challenge.rw_timesover_k21_times_of_rings.Holds := by
  w_on; o_law; k_head; (case hw => w_witness2)
  k_fill
  refine Tv.walk_ofG (l := PySem.Challenge.rw_timesover_k21_times_of_rings) (n := 63) (k := 9) (x := "script") (CX := fun _ => L2.CX0) (sp := fun w => Tv.spW _ Tv.pLaw) rfl (by decide) rfl ⟨rfl, by decide, by decide⟩ (fun w h Y => by first | exact PySem.W.kIn_of Y | exact PySem.W.km_in_of Y) ?F (fun _ _ a ns hl _ hS => Tv.law_sp hl hS) (fun _ _ _ _ _ h => h)
  case F =>
    intro w mg fa h KX G hmg
    refine' K21.all_mk (h := h) hmg ⟨PySem.W.mg_none_of KX G ?z0, PySem.W.mg_none_of KX G ?z1, PySem.W.mg_none_of KX G ?z2, PySem.W.mg_none_of KX G ?z3, PySem.W.mg_none_of KX G ?z4, PySem.W.mg_none_of KX G ?z5, PySem.W.mg_none_of KX G ?z6, PySem.W.mg_none_of KX G ?z7, PySem.W.mg_none_of KX G ?z8, PySem.W.mg_none_of KX G ?z9, PySem.W.mg_none_of KX G ?z10, PySem.W.mg_none_of KX G ?z11, PySem.W.mg_none_of KX G ?z12, PySem.W.mg_none_of KX G ?z13, PySem.W.mg_none_of KX G ?z14, PySem.W.mg_none_of KX G ?z15, PySem.W.mg_none_of KX G ?z16, PySem.W.mg_none_of KX G ?z17, PySem.W.mg_none_of KX G ?z18, PySem.W.mg_none_of KX G ?z19, PySem.W.mg_none_of KX G ?z20⟩ (Tv.at_mk KX G ?a0 ?l0 ?c0 ?k0) (Tv.at_mk KX G ?a1 ?l1 ?c1 ?k1) (Tv.at_mk KX G ?a2 ?l2 ?c2 ?k2) (Tv.at_mk KX G ?a3 ?l3 ?c3 ?k3) (Tv.at_mk KX G ?a4 ?l4 ?c4 ?k4) (Tv.at_mk KX G ?a5 ?l5 ?c5 ?k5) (Tv.at_mk KX G ?a6 ?l6 ?c6 ?k6) (Tv.at_mk KX G ?a7 ?l7 ?c7 ?k7) (Tv.at_mk KX G ?a8 ?l8 ?c8 ?k8) (Tv.at_mk KX G ?a9 ?l9 ?c9 ?k9) (Tv.at_mk KX G ?a10 ?l10 ?c10 ?k10) (Tv.at_mk KX G ?a11 ?l11 ?c11 ?k11) (Tv.at_mk KX G ?a12 ?l12 ?c12 ?k12) (Tv.mat_mk ?a13 ?i13 ?l13 ?c13 ?k13) (Tv.at_mk KX G ?a14 ?l14 ?c14 ?k14) (Tv.at_mk KX G ?a15 ?l15 ?c15 ?k15) (Tv.at_mk KX G ?a16 ?l16 ?c16 ?k16) (Tv.at_mk KX G ?a17 ?l17 ?c17 ?k17) (Tv.at_mk KX G ?a18 ?l18 ?c18 ?k18) (Tv.at_mk KX G ?a19 ?l19 ?c19 ?k19) (Tv.at_mk KX G ?a20 ?l20 ?c20 ?k20) (Tv.at_mk KX G ?a21 ?l21 ?c21 ?k21) (Tv.at_mk KX G ?a22 ?l22 ?c22 ?k22) (Tv.at_mk KX G ?a23 ?l23 ?c23 ?k23) (Tv.at_mk KX G ?a24 ?l24 ?c24 ?k24) (Tv.at_mk KX G ?a25 ?l25 ?c25 ?k25) (Tv.at_mk KX G ?a26 ?l26 ?c26 ?k26) (Tv.at_mk KX G ?a27 ?l27 ?c27 ?k27) (Tv.at_mk KX G ?a28 ?l28 ?c28 ?k28) (Tv.at_mk KX G ?a29 ?l29 ?c29 ?k29) (Tv.at_mk KX G ?a30 ?l30 ?c30 ?k30) (Tv.at_mk KX G ?a31 ?l31 ?c31 ?k31) (Tv.at_mk KX G ?a32 ?l32 ?c32 ?k32) (Tv.at_mk KX G ?a33 ?l33 ?c33 ?k33) (Tv.at_mk KX G ?a34 ?l34 ?c34 ?k34) (Tv.at_mk KX G ?a35 ?l35 ?c35 ?k35) (Tv.at_mk KX G ?a36 ?l36 ?c36 ?k36) (Tv.at_mk KX G ?a37 ?l37 ?c37 ?k37) (Tv.at_mk KX G ?a38 ?l38 ?c38 ?k38) (Tv.at_mk KX G ?a39 ?l39 ?c39 ?k39) (Tv.at_mk KX G ?a40 ?l40 ?c40 ?k40) (Tv.at_mk KX G ?a41 ?l41 ?c41 ?k41) (Tv.at_mk KX G ?a42 ?l42 ?c42 ?k42) (Tv.mat_mk ?a43 ?i43 ?l43 ?c43 ?k43) (Tv.at_mk KX G ?a44 ?l44 ?c44 ?k44) (Tv.at_mk KX G ?a45 ?l45 ?c45 ?k45) (Tv.kc_int (n := 9) KX G ?s0) (Tv.kc_int (n := 12) KX G ?s1) (Tv.kc_int (n := 24) KX G ?s2) (Tv.kc_str (z := Str.ofString "abcdefghijklmnopqrstuvwxyz") KX G ?s3) (Tv.kc_str (z := Str.ofString "0123456789") KX G ?s4) (Tv.kc_strs (xs := [Str.ofString "1", Str.ofString "2", Str.ofString "3", Str.ofString "4"]) KX G ?s5 ?m5 ?v5 ?y5) (Tv.cls_mk KX G ?cl_Plan_aC ?cl_Plan_pg ?cl_Plan_hd ?cl_Plan_po ?cl_Plan_sa ?cl_Plan_mk ?cl_Plan_kc) (Tv.na_mk ?na_text_n) (Tv.na_mk ?na_places_n) (Tv.na_mk ?na_lines_n)
    (case cl_Plan_aC => k_is); (case cl_Plan_pg => k_is); (case cl_Plan_hd => k_is); (case cl_Plan_po => k_is); (case cl_Plan_sa => k_is); (case cl_Plan_mk => k_is); (case cl_Plan_kc => k_is); (case na_text_n => k_is); (case na_places_n => k_is); (case na_lines_n => k_is); (case a0 => k_is); (case l0 => k_is); (case c0 => k_is); (case k0 => k_is); (case a1 => k_is); (case l1 => k_is); (case c1 => k_is); (case k1 => k_is); (case a2 => k_is); (case l2 => k_is); (case c2 => k_is); (case k2 => k_is); (case a3 => k_is); (case l3 => k_is); (case c3 => k_is); (case k3 => k_is); (case a4 => k_is); (case l4 => k_is); (case c4 => k_is); (case k4 => k_is); (case a5 => k_is); (case l5 => k_is); (case c5 => k_is); (case k5 => k_is); (case a6 => k_is); (case l6 => k_is); (case c6 => k_is); (case k6 => k_is); (case a7 => k_is); (case l7 => k_is); (case c7 => k_is); (case k7 => k_is); (case a8 => k_is); (case l8 => k_is); (case c8 => k_is); (case k8 => k_is); (case a9 => k_is); (case l9 => k_is); (case c9 => k_is); (case k9 => k_is); (case a10 => k_is); (case l10 => k_is); (case c10 => k_is); (case k10 => k_is); (case a11 => k_is); (case l11 => k_is); (case c11 => k_is); (case k11 => k_is); (case a12 => k_is); (case l12 => k_is); (case c12 => k_is); (case k12 => k_is); (case a13 => k_is); (case i13 => k_is); (case l13 => k_is); (case c13 => k_is); (case k13 => k_is); (case a14 => k_is); (case l14 => k_is); (case c14 => k_is); (case k14 => k_is); (case a15 => k_is); (case l15 => k_is); (case c15 => k_is); (case k15 => k_is); (case a16 => k_is); (case l16 => k_is); (case c16 => k_is); (case k16 => k_is); (case a17 => k_is); (case l17 => k_is); (case c17 => k_is); (case k17 => k_is); (case a18 => k_is); (case l18 => k_is); (case c18 => k_is); (case k18 => k_is); (case a19 => k_is); (case l19 => k_is); (case c19 => k_is); (case k19 => k_is); (case a20 => k_is); (case l20 => k_is); (case c20 => k_is); (case k20 => k_is); (case a21 => k_is); (case l21 => k_is); (case c21 => k_is); (case k21 => k_is); (case a22 => k_is); (case l22 => k_is); (case c22 => k_is); (case k22 => k_is); (case a23 => k_is); (case l23 => k_is); (case c23 => k_is); (case k23 => k_is); (case a24 => k_is); (case l24 => k_is); (case c24 => k_is); (case k24 => k_is); (case a25 => k_is); (case l25 => k_is); (case c25 => k_is); (case k25 => k_is); (case a26 => k_is); (case l26 => k_is); (case c26 => k_is); (case k26 => k_is); (case a27 => k_is); (case l27 => k_is); (case c27 => k_is); (case k27 => k_is); (case a28 => k_is); (case l28 => k_is); (case c28 => k_is); (case k28 => k_is); (case a29 => k_is); (case l29 => k_is); (case c29 => k_is); (case k29 => k_is); (case a30 => k_is); (case l30 => k_is); (case c30 => k_is); (case k30 => k_is); (case a31 => k_is); (case l31 => k_is); (case c31 => k_is); (case k31 => k_is); (case a32 => k_is); (case l32 => k_is); (case c32 => k_is); (case k32 => k_is); (case a33 => k_is); (case l33 => k_is); (case c33 => k_is); (case k33 => k_is); (case a34 => k_is); (case l34 => k_is); (case c34 => k_is); (case k34 => k_is); (case a35 => k_is); (case l35 => k_is); (case c35 => k_is); (case k35 => k_is); (case a36 => k_is); (case l36 => k_is); (case c36 => k_is); (case k36 => k_is); (case a37 => k_is); (case l37 => k_is); (case c37 => k_is); (case k37 => k_is); (case a38 => k_is); (case l38 => k_is); (case c38 => k_is); (case k38 => k_is); (case a39 => k_is); (case l39 => k_is); (case c39 => k_is); (case k39 => k_is); (case a40 => k_is); (case l40 => k_is); (case c40 => k_is); (case k40 => k_is); (case a41 => k_is); (case l41 => k_is); (case c41 => k_is); (case k41 => k_is); (case a42 => k_is); (case l42 => k_is); (case c42 => k_is); (case k42 => k_is); (case a43 => k_is); (case i43 => k_is); (case l43 => k_is); (case c43 => k_is); (case k43 => k_is); (case a44 => k_is); (case l44 => k_is); (case c44 => k_is); (case k44 => k_is); (case a45 => k_is); (case l45 => k_is); (case c45 => k_is); (case k45 => k_is); (case z0 => k_is); (case z1 => k_is); (case z2 => k_is); (case z3 => k_is); (case z4 => k_is); (case z5 => k_is); (case z6 => k_is); (case z7 => k_is); (case z8 => k_is); (case z9 => k_is); (case z10 => k_is); (case z11 => k_is); (case z12 => k_is); (case z13 => k_is); (case z14 => k_is); (case z15 => k_is); (case z16 => k_is); (case z17 => k_is); (case z18 => k_is); (case z19 => k_is); (case z20 => k_is); (case s0 => k_is); (case s1 => k_is); (case s2 => k_is); (case s3 => k_is); (case s4 => k_is); (case s5 => k_is); (case m5 => k_is); (case v5 => exact (.cons ⟨_, rfl⟩ (.cons ⟨_, rfl⟩ (.cons ⟨_, rfl⟩ (.cons ⟨_, rfl⟩ .nil))))); (case y5 => exact (show 4 ≤ sizeLine by decide))
