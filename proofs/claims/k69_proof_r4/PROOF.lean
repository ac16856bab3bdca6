import PyProof.Rows.All
import Wide.All
import OpenK.AllK
import Wide.FinOn
import HandS.ForMost
import HandS.ForExc
import PyProof.ReprRoads
import PyProof.ReprText
import HandS.Lambda
import HandS.ExcInit
import HandS.ExcOwn
import HandS.ExcField
import HandS.IsInst
import HandS.Small
import KE.KExcIs
import HandS.Conv
import HandS.TupAny
import HandS.TupMul
import KE.KTupSum
import HandS.AnyAll
import HandS.EndTab
import PyProof.ConsumeS
import PyProof.SumAny
import HandS.GenList
import HandS.Zip
import KE.GoesEnum
import KE.GoesMore
import HandS.Iter
import PyProof.Rows.MinMaxGenD
import HandS.Wide
import HandS.Dict
import HandS.More
import HandS.Gcd
import KE.KMathGC
import HandS.CallLocal
import HandS.Defaults
import PySem.Challenge.RW_besthours_k69_whole_rounds_of_weeks
set_option Elab.async false
set_option linter.all false
set_option maxRecDepth 100000
set_option maxHeartbeats 4000000
/-! KitA: values as plain data (Rep), repr of them, a call's promise that knows of no repr under way (FnG). -/
namespace BK
open PySem PySem.Spec PyProof.Rows L2

/-! ### a value that stands for plain data -/
mutual
inductive Rep (K : PySem.W.Frag) (H : Hp) : V → PyData → Prop
  | non : Rep K H .non .none
  | bl (b : Bool) : Rep K H (.bl b) (.bool b)
  | int (i : Int) : Rep K H (.int i) (.int i)
  | str (x : Str) : Rep K H (.str x) (.str x)
  | lst {a : Addr} {xs : List V} {ds : List PyData} (h : SqL K H a xs) (r : RepAll K H xs ds) : Rep K H (.ref a) (.list ds)
  | tup {a : Addr} {xs : List V} {ds : List PyData} (h : SqT K H a xs) (r : RepAll K H xs ds) : Rep K H (.ref a) (.tuple ds)
inductive RepAll (K : PySem.W.Frag) (H : Hp) : List V → List PyData → Prop
  | nil : RepAll K H [] []
  | cons {x : V} {d : PyData} {xs : List V} {ds : List PyData} (h : Rep K H x d) (r : RepAll K H xs ds) : RepAll K H (x :: xs) (d :: ds)
end
theorem rd_same {H H' : Hp} {a : Addr} {u : HO} (e : Same H H') (h : Rd H a u) : Rd H' a u := by
  rcases h with h | ⟨o, h⟩
  · exact Or.inl (e a _ h)
  · exact Or.inr ⟨o, e a _ h⟩
theorem sql_same {K : PySem.W.Frag} {H H' : Hp} {a : Addr} {xs : List V} (e : Same H H') (h : SqL K H a xs) : SqL K H' a xs := by
  rcases h with h | h
  · exact Or.inl (rd_same e h)
  · exact Or.inr h
theorem sqt_same {K : PySem.W.Frag} {H H' : Hp} {a : Addr} {xs : List V} (e : Same H H') (h : SqT K H a xs) : SqT K H' a xs := by
  rcases h with h | h
  · exact Or.inl (rd_same e h)
  · exact Or.inr h
mutual
theorem Rep.same {K : PySem.W.Frag} {H H' : Hp} (e : Same H H') : ∀ {v : V} {d : PyData}, Rep K H v d → Rep K H' v d
  | _, _, .non => .non
  | _, _, .bl b => .bl b
  | _, _, .int i => .int i
  | _, _, .str x => .str x
  | _, _, .lst h r => .lst (sql_same e h) (RepAll.same e r)
  | _, _, .tup h r => .tup (sqt_same e h) (RepAll.same e r)
theorem RepAll.same {K : PySem.W.Frag} {H H' : Hp} (e : Same H H') : ∀ {vs : List V} {ds : List PyData}, RepAll K H vs ds → RepAll K H' vs ds
  | _, _, .nil => .nil
  | _, _, .cons h r => .cons (Rep.same e h) (RepAll.same e r)
end
mutual
theorem Rep.noDict {K : PySem.W.Frag} {H : Hp} : ∀ {v : V} {d : PyData}, Rep K H v d → d.hasDict = false
  | _, _, .non => by simp only [PyData.hasDict]
  | _, _, .bl b => by simp only [PyData.hasDict]
  | _, _, .int i => by simp only [PyData.hasDict]
  | _, _, .str x => by simp only [PyData.hasDict]
  | _, _, .lst h r => by simp only [PyData.hasDict, RepAll.noDict r]
  | _, _, .tup h r => by simp only [PyData.hasDict, RepAll.noDict r]
theorem RepAll.noDict {K : PySem.W.Frag} {H : Hp} : ∀ {vs : List V} {ds : List PyData}, RepAll K H vs ds → PyData.hasDictAll ds = false
  | _, _, .nil => by simp only [PyData.hasDictAll]
  | _, _, .cons h r => by simp only [PyData.hasDictAll, Rep.noDict h, RepAll.noDict r, Bool.or_self]
end
theorem RepAll.length {K : PySem.W.Frag} {H : Hp} : ∀ {vs : List V} {ds : List PyData}, RepAll K H vs ds → vs.length = ds.length
  | _, _, .nil => rfl
  | _, _, .cons h r => congrArg Nat.succ (RepAll.length r)
theorem RepAll.append {K : PySem.W.Frag} {H : Hp} : ∀ {vs us : List V} {ds es : List PyData}, RepAll K H vs ds → RepAll K H us es → RepAll K H (vs ++ us) (ds ++ es)
  | _, _, _, _, .nil, h => h
  | _, _, _, _, .cons a r, h => .cons a (RepAll.append r h)
theorem RepAll.ints {K : PySem.W.Frag} {H : Hp} : ∀ (ns : List Int), RepAll K H (ns.map V.int) (ns.map PyData.int)
  | [] => .nil
  | n :: ns => .cons (.int n) (RepAll.ints ns)
section
variable {X : Cx} {pins : List (Addr × Obj)} {σ : L2.St} {H : Hp} {s : Shared}
mutual
theorem reads_of (I : Inv X pins σ H s) : ∀ {v : V} {d : PyData} {u : Value}, Rep X.K H v d → RelV v u → ∃ as, Reads s.heap u d as
  | _, _, _, .non, r => by cases r; exact ⟨_, .none⟩
  | _, _, _, .bl b, r => by cases r; exact ⟨_, .bool b⟩
  | _, _, _, .int i, r => by obtain ⟨t, rfl⟩ := r; exact ⟨_, .int i t⟩
  | _, _, _, .str x, r => by obtain ⟨t, rfl⟩ := r; exact ⟨_, .str x t⟩
  | _, _, _, .lst h ra, r => by
    cases r
    obtain ⟨its, rv, ⟨o, n, e1, e2, e3, e4⟩, _⟩ := I.list h
    obtain ⟨as, q⟩ := readsAll_of I ra rv
    exact ⟨_, .list e1 e2 e4 q⟩
  | _, _, _, .tup h ra, r => by
    cases r
    obtain ⟨its, rv, ⟨o, e1, e2, n, e4⟩, _⟩ := I.tuple h
    obtain ⟨as, q⟩ := readsAll_of I ra rv
    exact ⟨_, .tuple e1 e2 e4 q⟩
theorem readsAll_of (I : Inv X pins σ H s) : ∀ {vs : List V} {ds : List PyData} {us : List Value}, RepAll X.K H vs ds → Vals vs us → ∃ as, ReadsAll s.heap us ds as
  | _, _, _, .nil, .nil => ⟨_, .nil⟩
  | _, _, _, .cons h ra, .cons r rr => by
    obtain ⟨as, q⟩ := reads_of I h r
    obtain ⟨bs, q2⟩ := readsAll_of I ra rr
    exact ⟨_, .cons q q2⟩
end
/-- what is said of data that is to be shown: n bounds its text -/
structure Fine (d : PyData) (n : Nat) : Prop where
  sh : d.showable = true
  len : d.shown.length ≤ n
  dep : d.depth ≤ n
theorem Fine.mono {d : PyData} {n m : Nat} (h : Fine d n) (e : n ≤ m) : Fine d m := ⟨h.sh, Nat.le_trans h.len e, Nat.le_trans h.dep e⟩
/-- repr(v), v a list or a tuple -/
theorem call_repr (hg : X.A.guards = some []) (hu : X.A.units + 110 < cLine) :
    CallR X (.builtin "repr") (fun xs H Q => ∃ (a : Addr) (d : PyData) (n : Nat), xs = [.ref a] ∧ Rep X.K H (.ref a) d ∧ Fine d n ∧ n ≤ 16777216 ∧ d.depth ≤ 100 ∧ Q (.str d.shown) H) := by
  intro pins s σ H xs us Q I r h
  obtain ⟨a, d, n, rfl, hr, hf, hn, hd, q⟩ := h
  cases r with
  | cons rx rr =>
    cases rr
    obtain rfl : _ = Value.ref a := rx
    obtain ⟨as, hR⟩ := reads_of I hr rfl
    have hsz : d.shown.length ≤ sizeLine := Nat.le_trans hf.len (by rw [sizeLine_eq]; exact hn)
    refine repr_of_reads' hR hf.sh (PyData.noDict_hsm hr.noDict) hg (by omega) (fun _ _ e => e) (fun h' u tk hk => ?_) hsz
    exact ⟨.str d.shown, H, I.kept (t' := tk) hk, ⟨u, rfl⟩, q⟩
end
/-! ### bounds of texts -/
theorem fine_non : Fine .none 5 := ⟨rfl, by decide +kernel, by decide⟩
theorem fine_bl (b : Bool) : Fine (.bool b) 5 := ⟨rfl, by cases b <;> decide +kernel, by simp [PyData.depth]⟩
theorem fine_int {i : Int} (h : i.natAbs < 10 ^ 10) : Fine (.int i) 11 := by
  refine ⟨?_, ?_, by simp [PyData.depth]⟩
  · simp only [PyData.showable, decide_eq_true_eq]
    have h1 : i.natAbs.log2 ≤ (10 ^ 10 : Nat).log2 := by
      by_cases hz : i.natAbs = 0
      · rw [hz]; decide
      · exact (Nat.le_log2 (by decide)).2 (Nat.le_trans (Nat.log2_self_le hz) (Nat.le_of_lt h))
    have h2 : (10 ^ 10 : Nat).log2 < 1920 := by decide +kernel
    omega
  · rw [PyData.shown_int, PySem.ofString_length]
    exact int_text_length_le10 (k := 10) (by decide) h
theorem fine_all {m : Nat} : ∀ {ds : List PyData}, (∀ d ∈ ds, Fine d m) → PyData.showableAll ds = true ∧ ((PyData.shownAll ds).map (·.length)).sum ≤ ds.length * m ∧ PyData.depthAll ds ≤ m
  | [], _ => ⟨by simp only [PyData.showableAll], by simp [PyData.shownAll], by simp [PyData.depthAll]⟩
  | d :: ds, h => by
    obtain ⟨a, b, c⟩ := fine_all (m := m) (ds := ds) fun x hx => h x (List.mem_cons_of_mem _ hx)
    have h0 := h d (List.mem_cons_self ..)
    refine ⟨by simp only [PyData.showableAll, h0.sh, a, Bool.and_self], ?_, ?_⟩
    · simp only [PyData.shownAll, List.map_cons, List.sum_cons, List.length_cons]
      have := h0.len
      rw [Nat.add_mul]
      omega
    · simp only [PyData.depthAll]
      exact Nat.max_le.2 ⟨h0.dep, c⟩
theorem fine_list {ds : List PyData} {m n : Nat} (h : ∀ d ∈ ds, Fine d m) (e : ds.length * m + ds.length * 2 + 4 + m ≤ n) : Fine (.list ds) n := by
  obtain ⟨a, b, c⟩ := fine_all h
  refine ⟨by simp only [PyData.showable]; exact a, ?_, by simp only [PyData.depth]; omega⟩
  rw [PyData.shown_list, Str.length_append, Str.length_append]
  have j := StrLaws.join_length_le (", " : Str) (PyData.shownAll ds)
  rw [PyData.shownAll_length] at j
  have l1 : ((", " : String) : Str).length = 2 := by decide +kernel
  have l2 : (("[" : String) : Str).length = 1 := by decide +kernel
  have l3 : (("]" : String) : Str).length = 1 := by decide +kernel
  rw [l1] at j
  rw [l2, l3]
  omega
theorem fine_tup {ds : List PyData} {m n : Nat} (h : ∀ d ∈ ds, Fine d m) (e : ds.length * m + ds.length * 2 + 4 + m ≤ n) : Fine (.tuple ds) n := by
  obtain ⟨a, b, c⟩ := fine_all h
  refine ⟨by simp only [PyData.showable]; exact a, ?_, by simp only [PyData.depth]; omega⟩
  rw [PyData.shown_tuple, Str.length_append, Str.length_append]
  have j := StrLaws.join_length_le (", " : Str) (PyData.shownAll ds)
  rw [PyData.shownAll_length] at j
  have l1 : ((", " : String) : Str).length = 2 := by decide +kernel
  have l2 : (("(" : String) : Str).length = 1 := by decide +kernel
  have l3 : (Str.ofString (if ds.length == 1 then ",)" else ")" : String)).length ≤ 2 := by split <;> decide +kernel
  rw [l1] at j
  rw [l2]
  omega
end BK
set_option Elab.async false
set_option linter.all false
set_option maxRecDepth 100000
set_option maxHeartbeats 4000000
/-! KitE: promises of defs that are called where no repr is under way, and their calls. -/
namespace BK
open PySem PySem.Spec PyProof.Rows L2
/-- as FnOk, wherever the guards of repr are known to be none; nothing is raised -/
structure FnG (P : Program) (w : World) (K : PySem.W.Frag) (mg : Str → Option Value) (base : Heap) (k : Nat) (f : Addr) (fd : FuncData) (ps : List Str) (sp : Sp) : Prop where
  len : ∀ vs H Q E, sp vs H Q E → vs.length = ps.length
  run : ∀ (A : Around) (outer : List Env) (s : Shared) (H : Hp) (args : Args) (us : List Value) (vs : List V) (Q : VK) (E : XK),
    A.guards = some [] → Room k A → Env0 P w K mg base A outer s H → BindsTo s fd args (ps.zip us) → Vals vs us → sp vs H Q E → codeAny (model P w) A (.call (.ref f) args) (CR CX0 outer P w H s Q E) s
theorem FnG.of {P : Program} {w : World} {K : PySem.W.Frag} {mg : Str → Option Value} {base : Heap} {k : Nat} {f : Addr} {fd : FuncData} {ps : List Str} {sp : Sp} (F : FnOk P w K mg base CX0 k f fd ps sp) : FnG P w K mg base k f fd ps sp :=
  ⟨F.len, fun A outer s H args us vs Q E _ => F.run A outer s H args us vs Q E⟩
theorem fun_okG {P : Program} {w : World} {K : PySem.W.Frag} {mg : Str → Option Value} {base : Heap} {x qual : Str} {st : Stmt} {f : Addr} {fd : FuncData} {N ps : List Str} {k : Nat} {sp : Sp}
    (F : Fun K x qual st f fd) (S : FnScope N ps (defScope st)) (len : ∀ vs H Q E, sp vs H Q E → vs.length = ps.length)
    (hbody : ∀ (cdv : Value) (A : Around) (outer : List Env) (s : Shared) (H : Hp) (vs : List V) (Q : VK) (E : XK), A.guards = some [] → Room k (A.deeper (envOfC qual (defScope st) s.heap.objs.size f cdv)) → sp vs H Q E →
      ∃ t, PSs (cxOf CX0 P w K mg base N qual (defScope st) f cdv A outer s H E).nox (defBody st) t ∧ t { nx := fun _ H' => Q .non H', rt := Q } (L2.start N vs) H) : FnG P w K mg base (k + 1) f fd ps sp := by
  obtain ⟨oc, od, kV, doc, pm, an, cdv, ct, osl, rfl, lk, hcd⟩ := F.ex
  constructor
  · exact len
  · intro A outer s H args us vs Q E hgd hr e0 hb r hsp
    apply LamX.run_ofS lk hcd S hr e0 hb r (len _ _ _ _ hsp)
    intro hr'
    obtain ⟨t, ht, hq⟩ := hbody cdv A outer s H vs Q E hgd hr' hsp
    exact ⟨t, ht.nox, hq⟩
section
variable {X : Cx} {k : Nat} {f : Addr} {fd : FuncData} {ps : List Str} {sp : Sp} {E : XK} {x : Str} {p pos : Pos} {e : Expr} {es : List Expr} {t : TA}
theorem run_fnG {pins : List (Addr × Obj)} {σ : L2.St} {H : Hp} {s : Shared} {Q : VK} {us : List Value} {vs : List V} (F : FnG X.prog X.w X.K X.mg X.base k f fd ps sp) (hgd : X.A.guards = some []) (hr : Room k X.A) (hb : Binds X.K fd ps [])
    (I : Inv X pins σ H s) (r : Vals vs us) (h : sp vs H Q E) : wpAny (model X.prog X.w) X.A (call (.ref f) us) (EP X pins σ Q) X.xe s := by
  have many : us.length = ps.length := r.length.symm.trans (F.len _ _ _ _ h)
  have bound : BindsTo s fd ⟨us, []⟩ (ps.zip us) := by
    have b := hb s us I.kIn ((congrArg List.length (List.append_nil us)).trans many)
    rwa [List.append_nil] at b
  apply wpAny_call
  apply codeAny_mono (F.run X.A X.stack s H ⟨us, []⟩ us vs Q E hgd hr I.env0 bound r h)
  intro res s' q
  match res, q with
  | .ok (.ret _), q => exact I.after q
  | .ok .next, q => exact (show False from q).elim
  | .ok .brk, q => exact (show False from q).elim
  | .ok .cont, q => exact (show False from q).elim
  | .error _, q => exact (show False from q).elim
def tCallG (sp : Sp) (t : TA) : TE := fun σ H Q => t σ H fun vs H1 => sp vs H1 Q E0
theorem pe_callG (F : FnG X.prog X.w X.K X.mg X.base k f fd ps sp) (hgd : X.A.guards = some []) (hr : Room k X.A) (hg : Gl X x) (hm : X.mg x = some (.ref f)) (hk : PySem.W.keepIn X.K (.ref f) = true) (hb : Binds X.K fd ps [])
    (ha : PA X (e :: es) t) (hdb : (x == ("__debug__" : Str)) = false := by decide) (he : starEach (e :: es) X.env = (false, eval e X.env) :: starEach es X.env := by rfl) (hpl : (backTo pos (starEach es X.env)).any (·.1) = false := by rfl) :
    PE X (.Call (.Name x p) (e :: es) [] pos) (tCallG sp t) := by
  constructor
  intro pins s σ H Q I h
  apply wpAny_Call_Name_kw
  apply ld_glob I hg hm _ hdb
  apply PySem.W.callWith_K (h₀ := X.base) I.ok.mod.kin hk _ he hpl
  apply thn (ha.run pos pins s σ H _ I h)
  intro us s1 came
  obtain ⟨vs, H1, I1, r, q⟩ := came
  exact ⟨I1.kIn, run_fnG F hgd hr hb I1 r q⟩
theorem pe_callG0 (F : FnG X.prog X.w X.K X.mg X.base k f fd ps sp) (hgd : X.A.guards = some []) (hr : Room k X.A) (hg : Gl X x) (hm : X.mg x = some (.ref f)) (hk : PySem.W.keepIn X.K (.ref f) = true) (hb : Binds X.K fd ps [])
    (hdb : (x == ("__debug__" : Str)) = false := by decide) : PE X (.Call (.Name x p) [] [] pos) (tCallG sp tNil) := by
  constructor
  intro pins s σ H Q I h
  apply wpAny_Call_Name_kw
  apply ld_glob I hg hm _ hdb
  exact PySem.W.callWith_K0 I.kIn hk (run_fnG (us := []) F hgd hr hb I .nil h)
end
end BK
set_option Elab.async false
set_option linter.all false
set_option maxRecDepth 100000
set_option maxHeartbeats 4000000
/-! KitB: several except clauses that all give the error the same name. -/
namespace BK
open PySem PySem.Spec PyProof.Rows L2
/-- the ends of a suite: the name at slot i is gone behind it -/
abbrev Gone (i : Nat) (D : Ends) : Ends :=
  ⟨fun σ H => D.nx (σ.set i none) H, D.rt, fun σ H => D.bk (σ.set i none) H, fun σ H => D.ct (σ.set i none) H⟩
abbrev Suite := Addr → Value → Option Addr → TS
/-- the clauses' wish, one after the other; len: how many slots there are -/
def wManyA (K : PySem.W.Frag) (len i : Nat) (Wout : WX) (D : Ends) : List (Value × Suite) → WX
  | [] => Wout
  | q :: r => fun cls d σ H => ∃ b, PySem.W.exmOne K cls q.1 = some b ∧
      (b = true → σ.length = len → ∀ a, H a = none → q.2 a cls d (Gone i D) (σ.set i (some (.ref a))) H) ∧
      (b = false → wManyA K len i Wout D r cls d σ H)
inductive HdsA (X : Cx) (n : Str) : List ExceptHandler → List (Value × Suite) → Prop
  | nil : HdsA X n [] []
  | cons {x : Str} {c : Value} {ts : Suite} {b₀ : Stmt} {suite : List Stmt} {np hp : Pos} {hds : List ExceptHandler} {l : List (Value × Suite)}
      (named : Names X x c)
      (does : ∀ (a : Addr) (oe : Obj) (cls : Value) (d : Option Addr) (pn : List (Addr × Obj)), Zc cls d oe → (∃ vs, oe.data = .fields vs) → PSs (X.suite a ((a, oe) :: pn)) (b₀ :: suite) (ts a cls d))
      (more : HdsA X n hds l) : HdsA X n (.ExceptHandler (some (.Name x np)) (some n) (b₀ :: suite) hp :: hds) ((c, ts) :: l)
/-- an error of the body, come down to the clauses: its object at a, the state s3; sI is the state without it, B the ground -/
structure Lies (X : Cx) (pins : List (Addr × Obj)) (σ : L2.St) (H : Hp) (a : Addr) (cls : Value) (d : Option Addr) (B : Heap) (sI s3 : Shared) : Prop where
  inv : Inv X pins σ H sI
  gr : ∀ b o, sI.heap.get? b = some o → b ∉ frs X.stack → B.get? b = some o
  up : sI.heap.UpToSlots s3.heap
  fly : HandSPX.FlyingZ B (X.env :: X.outer) a (Zc cls d) s3.heap
  free : H a = none
  os : s3.os = sI.os
  bare : AllBare s3.gens
section
variable {X : Cx} {pins : List (Addr × Obj)} {σ : L2.St} {H : Hp} {a : Addr} {cls : Value} {d : Option Addr} {B : Heap} {sI s3 : Shared}
theorem Lies.here (L : Lies X pins σ H a cls d B sI s3) : Inv X pins σ H s3 := L.inv.landed L.gr L.fly.1 L.up L.os L.bare
/-- further on, the heap but for slots as it was -/
theorem Lies.on (L : Lies X pins σ H a cls d B sI s3) {h : Heap} (u : s3.heap.UpToSlots h) (f : HandSPX.FlyingZ B (X.env :: X.outer) a (Zc cls d) h) : Lies X pins σ H a cls d B sI { s3 with heap := h } :=
  { inv := L.inv, gr := L.gr, up := L.up.trans u, fly := f, free := L.free, os := L.os, bare := L.bare }
/-- its object is no frame's -/
theorem Lies.apart (L : Lies X pins σ H a cls d B sI s3) (hf : X.env.frame = some X.env.locals) : a ≠ X.env.locals ∧ a ∉ X.fs := by
  obtain ⟨oe, vs, e1, _, e2⟩ := L.fly.there
  have no : a ∉ frs (X.env :: X.outer) := by
    intro hm
    obtain ⟨_, u, eu, nf⟩ := (show s3.heap.FunFrames B (X.env :: X.outer) from L.fly.2.2.1).mem hm
    have same : oe = u := Option.some.inj (e1.symm.trans eu)
    exact nf vs (same ▸ e2)
  constructor
  · intro z
    exact no (List.mem_filterMap.mpr ⟨X.env, List.mem_cons_self, hf.trans (by rw [z])⟩)
  · intro hm
    obtain ⟨env, henv, q⟩ := List.mem_filterMap.mp hm
    exact no (List.mem_filterMap.mpr ⟨env, List.mem_cons_of_mem _ henv, q⟩)
/-- it lies in a suite's context, its object known -/
theorem Lies.inSuite (L : Lies X pins σ H a cls d B sI s3) (hf : X.env.frame = some X.env.locals) :
    ∃ oe : Obj, Zc cls d oe ∧ (∃ vs, oe.data = .fields vs) ∧ s3.heap.get? a = some oe ∧ Inv (X.suite a ((a, oe) :: (X.pn ++ pins))) [] σ H s3 := by
  obtain ⟨oe, vs, e1, z, e2⟩ := L.fly.there
  obtain ⟨n1, n2⟩ := L.apart hf
  exact ⟨oe, z, ⟨vs, e2⟩, e1, L.here.suite e1 e2 L.free n1 n2⟩
variable {n : Str} {i : Nat} {Wout : WX} {D : Ends}
/-- no clause is left: it goes up -/
theorem clauses_out (hs : X.stack = X.env :: X.outer) (hf : X.env.frame = some X.env.locals) (tk : Takes X Wout) (L : Lies X pins σ H a cls d B sI s3) (w : Wout cls d σ H) :
    wpAny (model X.prog X.w) X.A (handleBy (.ref a) X.env []) (SP X pins D) X.xe s3 := by
  apply wpAny_handleBy_nil
  obtain ⟨_, _, _, oe, vs, T, oT, ts, e1, _, e2, e3, _⟩ := id L.fly
  unfold PySem.passOn
  apply wpAny_bind
  apply wpAny_field e1 e2 e3
  have ne : ¬ (Value.ref T == Value.none) = true := by simp
  rw [if_neg ne]
  have up : wpAny (model X.prog X.w) X.A (setFlight (.ref a) X.env.frame) (fun _ s4 => wpAny (model X.prog X.w) X.A (throw (.ref a) : Sem Flow) (SP X pins D) X.xe s4) X.xe s3 := by
    rw [hf]
    apply HandSPX.setFlight_upZ L.fly
    intro h4 held u4
    apply wpAny_throw
    apply tk
    refine ⟨a, B, sI, pins, σ, H, cls, d, rfl, L.inv, L.gr, L.up.trans u4, ?_, L.free, L.os, L.bare, w⟩
    rw [hs]
    exact .inr (.inr held)
  first
    | exact wpAny_bind up
    | exact wpAny_bind (wpAny_pure (wpAny_bind up))
/-- the suite of the clause that takes it, then the name goes -/
theorem clauses_in {b₀ : Stmt} {suite : List Stmt} {ts : Suite} {hp : Pos} (hf : X.env.frame = some X.env.locals) (hN : X.N.Nodup) (hi : X.N[i]? = some n) (hln : X.env.kindOf n = some .local)
    (does : ∀ (a : Addr) (oe : Obj) (cls : Value) (d : Option Addr) (pn : List (Addr × Obj)), Zc cls d oe → (∃ vs, oe.data = .fields vs) → PSs (X.suite a ((a, oe) :: pn)) (b₀ :: suite) (ts a cls d))
    (L : Lies X pins σ H a cls d B sI s3) (w : ts a cls d (Gone i D) (σ.set i (some (.ref a))) H) {E1 E2 : Value → Shared → Prop} :
    wpAny (model X.prog X.w) (X.A.mark (some (.ref a))) (storeName X.env n (.ref a)) (fun _ s4 => wpAny (model X.prog X.w) (X.A.mark (some (.ref a))) (execs (b₀ :: suite) X.env)
      (fun f s5 => wpAny (model X.prog X.w) X.A (do bindName X.env n .none; unbindBehindTheSuite X.env n hp) (fun _ s6 => SP X pins D f s6) X.xe s5) E2 s4) E1 s3 := by
  obtain ⟨oe, z, dt, _, S⟩ := L.inSuite hf
  apply store_ok (X := X.suite a ((a, oe) :: (X.pn ++ pins))) (v := .ref a) S hN hi (.inl hln) rfl (hf := .inr hln)
  intro s4 S4
  have run := (does a oe cls d (X.pn ++ pins) z dt).run [] s4 _ H (Gone i D) S4 w
  apply wpAny_mono run
  · intro f s5 q
    have fin : ∀ {σ5 : L2.St} {H5 : Hp} {Q : Shared → Prop}, Inv (X.suite a ((a, oe) :: (X.pn ++ pins))) [] σ5 H5 s5 → (∀ s6, Inv X pins (σ5.set i none) H5 s6 → Q s6) →
        wpAny (model X.prog X.w) X.A (do bindName X.env n .none; unbindBehindTheSuite X.env n hp) (fun _ s6 => Q s6) X.xe s5 := by
      intro σ5 H5 Q S5 k
      exact gone_ok (S5.unsuite L.inv.ok) hN hi hln k
    match f, q with
    | .next, ⟨_, _, S5, q5⟩ => exact fin S5 fun _ J => ⟨_, _, J, q5⟩
    | .brk, ⟨_, _, S5, q5⟩ => exact fin S5 fun _ J => ⟨_, _, J, q5⟩
    | .cont, ⟨_, _, S5, q5⟩ => exact fin S5 fun _ J => ⟨_, _, J, q5⟩
    | .ret _, ⟨_, _, _, S5, r5, q5⟩ => exact fin S5 fun _ J => ⟨_, _, _, J, r5, q5⟩
  · intro _ _ no
    exact no.elim
/-- all clauses -/
theorem clauses_all (hs : X.stack = X.env :: X.outer) (hf : X.env.frame = some X.env.locals) (hN : X.N.Nodup) (hi : X.N[i]? = some n) (hln : X.env.kindOf n = some .local) (tk : Takes X Wout) :
    ∀ {hds : List ExceptHandler} {l : List (Value × Suite)}, HdsA X n hds l → Lies X pins σ H a cls d B sI s3 → wManyA X.K X.N.length i Wout D l cls d σ H →
      wpAny (model X.prog X.w) X.A (handleBy (.ref a) X.env hds) (SP X pins D) X.xe s3
  | _, _, .nil, L, w => clauses_out hs hf tk L w
  | _, _, .cons (x := x) (c := c) named does more, L, w => by
    obtain ⟨b, eb, yes, no⟩ := w
    apply wpAny_handleBy_cons _ (by intro q; cases q)
    apply codeAny_handlers_test
    obtain ⟨oe, z, dt, e1, S⟩ := L.inSuite hf
    have class_ : PySem.W.Looks (model X.prog X.w) s3.heap (typeOf (.ref a)) cls := by
      intro A Q E s k q
      exact wpAny_typeOf_ref (k _ _ e1) (by rw [z.1]; exact q)
    have asks := PySem.W.exm_one (M := model X.prog X.w) L.here.kIn class_ eb
    obtain ⟨hg, hdb, hm⟩ := named
    have go : ∀ {Q : Value → Shared → Prop} {E : Value → Shared → Prop} {np : Pos}, Q c s3 → wpAny (model X.prog X.w) (X.A.mark (some (.ref a))) (eval (.Name x np) X.env) Q E s3 := by
      intro Q E np q
      cases hm with
      | inl hm => exact ld_glob (X := X.suite a ((a, oe) :: (X.pn ++ pins))) S hg hm q hdb
      | inr hm => exact ld_blt (X := X.suite a ((a, oe) :: (X.pn ++ pins))) S hg hm.1 hm.2.1 q hm.2.2 hdb
    apply go
    apply asks.here
    cases b with
    | false => exact clauses_all hs hf hN hi hln tk more L (no rfl)
    | true =>
      apply codeAny_handlers_suite_as
      apply HandSPX.lands_againZ L.fly
      intro h4 f4 u4
      exact clauses_in hf hN hi hln does (L.on u4 f4) (yes rfl L.inv.len a L.free)
end
/-- try: body, except x1 as n: .. except x2 as n: .. -/
theorem ps_try_manyA {X : Cx} {n : Str} {i : Nat} {body : List Stmt} {h₀ : ExceptHandler} {hds : List ExceptHandler} {l : List (Value × Suite)} {pos : Pos} {tb : WX → TS} {Wout : WX}
    (hs : X.stack = X.env :: X.outer) (hf : X.env.frame = some X.env.locals) (hN : X.N.Nodup) (hi : X.N[i]? = some n) (hln : X.env.kindOf n = some .local) (tk : Takes X Wout)
    (hb : ∀ (W : WX) (pn : List (Addr × Obj)) (xe : Value → Shared → Prop), Takes (X.tr pn xe) W → PassesOwn (model X.prog X.w) X.A X.env xe → PSs (X.tr pn xe) body (tb W))
    (hh : HdsA X n (h₀ :: hds) l) : PS X (.Try body (h₀ :: hds) [] [] pos) (fun D σ H => tb (wManyA X.K X.N.length i Wout D l) D σ H) := by
  constructor
  intro pins s σ H D I h
  have ok := I.ok
  apply wpAny_Try_except
  have caught : Takes (X.tr (X.pn ++ pins) (fun e s1 => wpAny (model X.prog X.w) X.A (noteFrame e X.env) (fun _ s2 => wpAny (model X.prog X.w) X.A (setFlight e none)
      (fun _ s3 => wpAny (model X.prog X.w) X.A (handleBy e X.env (h₀ :: hds)) (SP X pins D) X.xe s3) X.xe s2) X.xe s1)) (wManyA X.K X.N.length i Wout D l) := by
    intro u s1 x
    obtain ⟨a, B, sI, _, σ', H', cls, d, rfl, J, gr, up, sky, na, os, ag, w⟩ := x
    have frames : X.A.frames = some (X.env :: X.outer) := ok.frames.trans (by rw [hs])
    rw [show (X.tr (X.pn ++ pins) _).stack = X.env :: X.outer from hs] at sky
    apply Sky.land Zc.steady frames hf sky
    intro h3 f3 u3
    exact clauses_all hs hf hN hi hln tk hh ⟨J.ofTry ok, gr, up.trans u3, f3, na, os, ag⟩ w
  apply wpAny_mono ((hb _ _ _ caught PassesOwn.looking).run [] s σ H D (I.toTry _) h)
  · intro f s1 q
    match f, q with
    | .next, ⟨_, _, J, q⟩ => exact wpAny_execs_nil ⟨_, _, J.ofTry ok, q⟩
    | .brk, ⟨_, _, J, q⟩ => exact ⟨_, _, J.ofTry ok, q⟩
    | .cont, ⟨_, _, J, q⟩ => exact ⟨_, _, J.ofTry ok, q⟩
    | .ret _, ⟨_, _, _, J, r, q⟩ => exact ⟨_, _, _, J.ofTry ok, r, q⟩
  · intro _ _ q
    exact q
end BK
set_option Elab.async false
set_option linter.all false
set_option maxRecDepth 100000
set_option maxHeartbeats 4000000
/-! KitC: own errors: made, raised, asked. -/
namespace BK
open PySem PySem.Spec PyProof.Rows L2
/-- what an own class of errors says, so that isinstance asks its instances rightly -/
structure IsC (K : PySem.W.Frag) (D : Addr) : Prop where
  cl : (PySem.W.clsIn K D).isSome = true
  hg : PySem.W.findIn K (.ref D) "__getattribute__" = some (some (.builtin "BaseException.__getattribute__"))
  hk : PySem.W.findIn K (.ref D) "__getattr__" = some none
  hs : PySem.W.subIn K (.ref D) (.type "BaseException") = some true
  ha : PySem.W.findIn K (.ref D) "__class__" = some (some (.builtin "object.__class__"))
  hn : PySem.W.specialIn K (.builtin "object.__class__") "__get__" = some (some (.builtin "getset_descriptor.__get__"))
  ht : PySem.W.takesIn K (.builtin "object.__class__") = some true
  hm : PySem.W.mroIn K D (.type "object") = some true
/-- isinstance(e, c), e the exception that the suite holds, d its dict -/
def rIsD (K : PySem.W.Frag) (D a : Addr) (d : Option Addr) : List V → Hp → VK → Prop := fun xs H Q => ∃ (c : V) (cv : Value) (b : Bool), xs = [.ref a, c] ∧ (∀ u, RelV c u → u = cv) ∧ PySem.W.kitOne K (.ref D) cv = some b ∧ (∀ dd, d = some dd → ∃ fs, H dd = some (.xd fs)) ∧ Q (.bl b) H
theorem call_isD {X : Cx} {a D : Addr} {d : Option Addr} {oe : Obj} {pn : List (Addr × Obj)} (C : IsC X.K D) (hz : Zc (.ref D) d oe) (hf : ∃ vs, oe.data = .fields vs) : CallR (X.suite a ((a, oe) :: pn)) (.builtin "isinstance") (rIsD X.K D a d) := by
  intro pins s σ H xs us Q I r h
  obtain ⟨c, cv, b, rfl, hcv, e, hd, q⟩ := h
  cases r with
  | cons rx rr =>
    cases rr with
    | cons rt rr =>
      cases rr
      cases rx
      have ec := hcv _ rt
      subst ec
      obtain ⟨hget, _⟩ := I.pin (a, oe) (List.mem_append.mpr (.inl List.mem_cons_self))
      obtain ⟨vs, hv⟩ := hf
      obtain ⟨od, J⟩ : ∃ od, PySem.W.InstAt s.heap a oe D od := by
        obtain ⟨oc, oda, odt, osl⟩ := oe
        obtain ⟨h1, h2⟩ := hz
        dsimp only at h1 h2 hv
        subst h1 h2 hv
        cases oda with
        | none => exact ⟨none, hget, rfl, rfl, trivial⟩
        | some dd =>
          obtain ⟨fs, hx⟩ := hd dd rfl
          obtain ⟨mA, ⟨o, es, ep, ho, _⟩, _⟩ := (show ObjOk X.prog X.w H s.heap dd (.xd fs) from I.hok dd _ hx)
          exact ⟨some o, hget, rfl, rfl, ho⟩
      exact PySem.W.kia_one (PySem.W.kitx_exc C.cl C.hg C.hk C.hs C.ha C.hn C.ht C.hm) I.kIn J e (fun z => nomatch z) fun tk => ⟨.bl b, H, I.kept (t' := tk) fun _ _ z => z, rfl, q⟩
/-! ### an error with one field -/
/-- __init__(self, f): self.f = f -/
def spErr (C : Addr) (f : Str) : Sp := fun vs H Q _ => ∃ (a : Addr) (y : V), vs = [.ref a, y] ∧ H a = some (exo a C none) ∧ ∀ dx, H dx = none → dx ≠ a → Q .non (upd (upd H dx (exd dx [(f, y)])) a (exo a C (some dx)))
section
variable {P : Program} {w : World} {K : PySem.W.Frag} {mg : Str → Option Value} {base : Heap}
theorem ok_err {st : Stmt} {cls f : Str} {C fI : Addr} {fd : FuncData} {p1 p2 p3 p4 : Pos} (F : Fun K "__init__" (cls ++ ".__init__") st fI fd) (T : OexC K C) (no : PySem.W.findIn K (.ref C) f = some none)
    (hb : defBody st = [.Assign [.Attribute (.Name "self" p1) f p2] (.Name f p3) p4]) (sc : FnScope ["self", f] ["self", f] (defScope st))
    (hv0 : Vis (defScope st) "self") (hv1 : Vis (defScope st) f) (hd : (f == ("__debug__" : Str)) = false) (hcd : (f == ("__classdict__" : Str)) = false)
    (hsw : ∀ X : Cx, swapsWith (.Name f p3) (some (.Attribute (.Name "self" p1) f p2)) p4.line X.env = pure false) : FnOk P w K mg base CX0 1 fI fd ["self", f] (spErr C f) := by
  refine F.ok sc (fun vs H Q E h => ?_) (fun cdv A outer s H vs Q E hr h => ?_)
  · obtain ⟨a, y, rfl, _⟩ := h
    rfl
  · obtain ⟨a, y, rfl, ha, q⟩ := h
    rw [hb]
    refine ⟨_, pss_one (ps_ost (pe_var (i := 0) rfl hv0) (pe_var (i := 1) rfl hv1 hd hcd) (hsw _)), ?_⟩
    exact ⟨y, rfl, .ref a, rfl, a, C, rfl, T, no, .inl ⟨ha, fun dx h1 h2 => q dx h1 h2⟩⟩
end
theorem heap_err {H : Hp} {a C d : Addr} {fs : List (Str × V)} (ha : H a = none) (hda : d ≠ a) :
    upd (del (upd (upd (upd H a (exo a C none)) d (exd d fs)) a (exo a C (some d))) a) d (.xd fs) = upd H d (.xd fs) := by
  funext b
  by_cases hb : b = d
  · rw [hb, upd_same, upd_same]
  · rw [upd_ne hb, upd_ne hb]
    by_cases hba : b = a
    · rw [hba, del_same, ha]
    · rw [del_ne hba, upd_ne hba, upd_ne hb, upd_ne hba]
section
variable {X : Cx}
/-- C(e), C with such an __init__ -/
theorem pmk_err {x f : Str} {C fI : Addr} {k : Nat} {fd : FuncData} {e : Expr} {ta : TA} {p pos : Pos} (T : OexC X.K C) (iC : PySem.W.findIn X.K (.ref C) "__init__" = some (some (.ref fI))) (tI : PySem.W.typeIn X.K (.ref fI) = some (.type "function"))
    (F1 : FnOk X.prog X.w X.K X.mg X.base CX0 k fI fd ["self", f] (spErr C f)) (hr : Room (k + 1) X.A) (hb : Binds X.K fd ["self", f] []) (hg : Gl X x) (hm : X.mg x = some (.ref C)) (ha : PA X [e] ta)
    (hdb : (x == ("__debug__" : Str)) = false := by decide) (hst : starEach [e] X.env = (false, eval e X.env) :: starEach [] X.env := by rfl) :
    PMk X (.Call (.Name x p) [e] [] pos) (tMkO C (spErr C f) [] ta) :=
  pmk_oex (es := []) (dvs := []) (ds := []) (sp := spErr C f) T iC tI F1 hr hb .nil (fun _ _ _ _ _ _ _ (z : False) => z.elim) hg hm ha hdb hst (by rfl)
/-- .. the end of its reading -/
theorem mk_err {C : Addr} {f : Str} {y : V} {H1 : Hp} {Q : XK} (h : ∀ d, H1 d = none → Q (.ref C) (some d) (upd H1 d (.xd [(f, y)]))) :
    [y].length ≤ 1000 ∧ ∀ a, H1 a = none → spErr C f (.ref a :: ([y] ++ [])) (upd H1 a (exo a C none))
      (fun v H2 => v = .non ∧ ∃ (d : Addr) (fs : List (Str × V)), H2 a = some (exo a C (some d)) ∧ H2 d = some (exd d fs) ∧ H1 d = none ∧ Q (.ref C) (some d) (upd (del H2 a) d (.xd fs))) (fun _ _ _ => False) := by
  refine ⟨by show 1 ≤ 1000; decide, fun a ha => ⟨a, y, rfl, upd_same, fun dx h1 h2 => ⟨rfl, dx, [(f, y)], upd_same, ?_, ?_, ?_⟩⟩⟩
  · rw [upd_ne h2, upd_same]
  · rw [upd_ne h2] at h1
    exact h1
  · rw [upd_ne h2] at h1
    rw [heap_err ha h2]
    exact h dx h1
/-- C(), C without own __init__ -/
theorem pmk_own0 {C : Addr} {bmB : List Value} {B newId initId : String} {x : Str} {p pos : Pos} (F : ExcBaseFacts B newId initId bmB) (q : PySem.W.excIn X.K C bmB newId = true) (gC : X.mg x = some (.ref C)) (kC : PySem.W.keepIn X.K (.ref C) = true) (r : Raises X (.ref C)) (hg : Gl X x)
    (hdb : (x == ("__debug__" : Str)) = false := by decide) : PMk X (.Call (.Name x p) [] [] pos) (fun _ H Q => Q (.ref C) none H) := by
  intro pins s σ H Q I h
  refine wpAny_Call_Name_kw (ld_glob I hg gC ?_ hdb)
  refine PySem.W.callWith_K0 I.kIn kC ?_
  show wpAny _ _ (call (.ref C) []) _ _ _
  obtain ⟨bm, N, nm, qn, bs, hdct, sn, sub, ab, col, dd, k0, k1, k2, k3, k5, mN, hC, hN, hni, T⟩ := exc_obj I.kIn q
  refine wpAny_call_exc_subT F T hC hN hni (fun h' e hm => ?_) (Nat.zero_le _)
  exact mk_of I hm r h (I.hok.gone hm.new)
end
end BK
set_option Elab.async false
set_option linter.all false
set_option maxRecDepth 100000
set_option maxHeartbeats 4000000
/-! KitD: defs by name; types of plain data; sums of tuples. -/
namespace BK
open PySem PySem.Spec PyProof.Rows L2
/-- a def of the text under its name -/
structure At (K : PySem.W.Frag) (mg : Str → Option Value) (x : Str) (st : Stmt) (ps : List Str) : Prop where
  ex : ∃ (f : Addr) (fd : FuncData), Fun K x x st f fd ∧ mg x = some (.ref f) ∧ Binds K fd ps []
/-- a def that keeps its promise, under its name -/
structure Def (P : Program) (w : World) (K : PySem.W.Frag) (mg : Str → Option Value) (base : Heap) (CX : CXT) (k : Nat) (x : Str) (ps : List Str) (sp : Sp) : Prop where
  ex : ∃ (f : Addr) (fd : FuncData), FnOk P w K mg base CX k f fd ps sp ∧ mg x = some (.ref f) ∧ PySem.W.keepIn K (.ref f) = true ∧ Binds K fd ps [] ∧ ∃ (oc : Value) (od : Option Addr) (osl : Array (Option Value)), K.lookup f = some ⟨oc, od, .func fd, osl⟩
structure DefG (P : Program) (w : World) (K : PySem.W.Frag) (mg : Str → Option Value) (base : Heap) (k : Nat) (x : Str) (ps : List Str) (sp : Sp) : Prop where
  ex : ∃ (f : Addr) (fd : FuncData), FnG P w K mg base k f fd ps sp ∧ mg x = some (.ref f) ∧ PySem.W.keepIn K (.ref f) = true ∧ Binds K fd ps [] ∧ ∃ (oc : Value) (od : Option Addr) (osl : Array (Option Value)), K.lookup f = some ⟨oc, od, .func fd, osl⟩
section
variable {P : Program} {w : World} {K : PySem.W.Frag} {mg : Str → Option Value} {base : Heap}
theorem At.ok {x : Str} {st : Stmt} {N ps : List Str} {k : Nat} {sp : Sp} (a : At K mg x st ps) (S : FnScope N ps (defScope st)) (len : ∀ vs H Q E, sp vs H Q E → vs.length = ps.length)
    (hbody : ∀ (f : Addr) (cdv : Value) (A : Around) (outer : List Env) (s : Shared) (H : Hp) (vs : List V) (Q : VK) (E : XK), Room k (A.deeper (envOfC x (defScope st) s.heap.objs.size f cdv)) → sp vs H Q E →
      ∃ t, PSs (cxOf CX0 P w K mg base N x (defScope st) f cdv A outer s H E).nox (defBody st) t ∧ t { nx := fun _ H' => Q .non H', rt := Q } (L2.start N vs) H) : Def P w K mg base CX0 (k + 1) x ps sp := by
  obtain ⟨f, fd, F, m, b⟩ := a.ex
  obtain ⟨oc, od, kV, doc, pm, an, cdv, ct, osl, _, lk, _⟩ := F.ex
  exact ⟨f, fd, F.ok S len (hbody f), m, F.kp, b, oc, od, osl, lk⟩
theorem At.okX {x : Str} {st : Stmt} {N ps : List Str} {k : Nat} {sp : Sp} (a : At K mg x st ps) (S : FnScope N ps (defScope st)) (len : ∀ vs H Q E, sp vs H Q E → vs.length = ps.length)
    (hbody : ∀ (f : Addr) (cdv : Value) (A : Around) (outer : List Env) (s : Shared) (H : Hp) (vs : List V) (Q : VK) (E : XK), Room k (A.deeper (envOfC x (defScope st) s.heap.objs.size f cdv)) → sp vs H Q E →
      ∃ t, PSs (cxOf (L2.CX P w) P w K mg base N x (defScope st) f cdv A outer s H E) (defBody st) t ∧ t { nx := fun _ H' => Q .non H', rt := Q } (L2.start N vs) H) : Def P w K mg base (L2.CX P w) (k + 1) x ps sp := by
  obtain ⟨f, fd, F, m, b⟩ := a.ex
  obtain ⟨oc, od, kV, doc, pm, an, cdv, ct, osl, _, lk, _⟩ := F.ex
  exact ⟨f, fd, F.okX S len (hbody f), m, F.kp, b, oc, od, osl, lk⟩
theorem At.okG {x : Str} {st : Stmt} {N ps : List Str} {k : Nat} {sp : Sp} (a : At K mg x st ps) (S : FnScope N ps (defScope st)) (len : ∀ vs H Q E, sp vs H Q E → vs.length = ps.length)
    (hbody : ∀ (f : Addr) (cdv : Value) (A : Around) (outer : List Env) (s : Shared) (H : Hp) (vs : List V) (Q : VK) (E : XK), A.guards = some [] → Room k (A.deeper (envOfC x (defScope st) s.heap.objs.size f cdv)) → sp vs H Q E →
      ∃ t, PSs (cxOf CX0 P w K mg base N x (defScope st) f cdv A outer s H E).nox (defBody st) t ∧ t { nx := fun _ H' => Q .non H', rt := Q } (L2.start N vs) H) : DefG P w K mg base (k + 1) x ps sp := by
  obtain ⟨f, fd, F, m, b⟩ := a.ex
  obtain ⟨oc, od, kV, doc, pm, an, cdv, ct, osl, _, lk, _⟩ := F.ex
  exact ⟨f, fd, fun_okG F S len (hbody f), m, F.kp, b, oc, od, osl, lk⟩
theorem Def.toG {x : Str} {ps : List Str} {k : Nat} {sp : Sp} (D : Def P w K mg base CX0 k x ps sp) : DefG P w K mg base k x ps sp := by
  obtain ⟨f, fd, F, m, kp, b, lk⟩ := D.ex
  exact ⟨f, fd, .of F, m, kp, b, lk⟩
end
section
variable {X : Cx} {CX : CXT} {k : Nat} {ps : List Str} {sp : Sp} {E : XK} {x : Str} {p pos : Pos} {e : Expr} {es : List Expr} {t : TA}
def tCallD (sp : Sp) (E : XK) (t : TA) : TE := fun σ H Q => t σ H fun vs H1 => sp (vs ++ []) H1 Q E
theorem pe_def (D : Def X.prog X.w X.K X.mg X.base CX k x ps sp) (hr : Room k X.A) (hg : Gl X x) (hx : Passes CX X E) (ha : PA X (e :: es) t)
    (hdb : (x == ("__debug__" : Str)) = false := by decide) (he : starEach (e :: es) X.env = (false, eval e X.env) :: starEach es X.env := by rfl) (hpl : (backTo pos (starEach es X.env)).any (·.1) = false := by rfl) :
    PE X (.Call (.Name x p) (e :: es) [] pos) (tCallD sp E t) := by
  obtain ⟨f, fd, F, m, kp, b, _⟩ := D.ex
  exact pe_call F hr hg m kp b .nil hx ha hdb he hpl
theorem pe_defG (D : DefG X.prog X.w X.K X.mg X.base k x ps sp) (hgd : X.A.guards = some []) (hr : Room k X.A) (hg : Gl X x) (ha : PA X (e :: es) t)
    (hdb : (x == ("__debug__" : Str)) = false := by decide) (he : starEach (e :: es) X.env = (false, eval e X.env) :: starEach es X.env := by rfl) (hpl : (backTo pos (starEach es X.env)).any (·.1) = false := by rfl) :
    PE X (.Call (.Name x p) (e :: es) [] pos) (tCallG sp t) := by
  obtain ⟨f, fd, F, m, kp, b, _⟩ := D.ex
  exact pe_callG F hgd hr hg m kp b ha hdb he hpl
theorem pe_defG0 (D : DefG X.prog X.w X.K X.mg X.base k x ps sp) (hgd : X.A.guards = some []) (hr : Room k X.A) (hg : Gl X x)
    (hdb : (x == ("__debug__" : Str)) = false := by decide) : PE X (.Call (.Name x p) [] [] pos) (tCallG sp tNil) := by
  obtain ⟨f, fd, F, m, kp, b, _⟩ := D.ex
  exact pe_callG0 F hgd hr hg m kp b hdb
end
/-! ### types -/
def tyOf : PyData → String
  | .none => "NoneType"
  | .bool _ => "bool"
  | .int _ => "int"
  | .str _ => "str"
  | .list _ => "list"
  | .tuple _ => "tuple"
  | .dict _ => "dict"
theorem tyx_of {K : PySem.W.Frag} {H : Hp} {v : V} {d : PyData} (r : Rep K H v d) : TyX K H v (.type (tyOf d)) := by
  cases r with
  | non => exact .base .non
  | bl b => exact .base (.bl b)
  | int i => exact .base (.int i)
  | str x => exact .base (.str x)
  | lst h ra =>
    rcases h with (h | ⟨o, h⟩) | ⟨o, its, n, h, c, _⟩
    · exact .base (.lst h)
    · exact .base (.frz h)
    · exact .kList h c
  | tup h ra =>
    rcases h with (h | ⟨o, h⟩) | ⟨o, its, n, h, c, _⟩
    · exact .base (.tup h)
    · exact .fTuple h
    · exact .kTuple h c
/-- of plain data -/
def isI : PyData → Bool
  | .bool _ => true
  | .int _ => true
  | _ => false
theorem kit_int : ∀ d : PyData, kitB (tyOf d) "int" = some (isI d)
  | .none => (by decide +kernel : kitB "NoneType" "int" = some false)
  | .bool _ => (by decide +kernel : kitB "bool" "int" = some true)
  | .int _ => (by decide +kernel : kitB "int" "int" = some true)
  | .str _ => (by decide +kernel : kitB "str" "int" = some false)
  | .list _ => (by decide +kernel : kitB "list" "int" = some false)
  | .tuple _ => (by decide +kernel : kitB "tuple" "int" = some false)
  | .dict _ => (by decide +kernel : kitB "dict" "int" = some false)
def isB : PyData → Bool
  | .bool _ => true
  | _ => false
theorem kit_bool : ∀ d : PyData, kitB (tyOf d) "bool" = some (isB d)
  | .none => (by decide +kernel : kitB "NoneType" "bool" = some false)
  | .bool _ => (by decide +kernel : kitB "bool" "bool" = some true)
  | .int _ => (by decide +kernel : kitB "int" "bool" = some false)
  | .str _ => (by decide +kernel : kitB "str" "bool" = some false)
  | .list _ => (by decide +kernel : kitB "list" "bool" = some false)
  | .tuple _ => (by decide +kernel : kitB "tuple" "bool" = some false)
  | .dict _ => (by decide +kernel : kitB "dict" "bool" = some false)
def isT : PyData → Bool
  | .tuple _ => true
  | _ => false
theorem kit_tuple : ∀ d : PyData, kitB (tyOf d) "tuple" = some (isT d)
  | .none => (by decide +kernel : kitB "NoneType" "tuple" = some false)
  | .bool _ => (by decide +kernel : kitB "bool" "tuple" = some false)
  | .int _ => (by decide +kernel : kitB "int" "tuple" = some false)
  | .str _ => (by decide +kernel : kitB "str" "tuple" = some false)
  | .list _ => (by decide +kernel : kitB "list" "tuple" = some false)
  | .tuple _ => (by decide +kernel : kitB "tuple" "tuple" = some true)
  | .dict _ => (by decide +kernel : kitB "dict" "tuple" = some false)
theorem isi_int {K : PySem.W.Frag} {H : Hp} {v : V} {d : PyData} {Q : VK} (r : Rep K H v d) (q : Q (.bl (isI d)) H) : rIsi K [v, .ty "int"] H Q := ⟨v, .ty "int", _, _, _, rfl, .ty "int", tyx_of r, kit_ty (kit_int d), q⟩
theorem isi_bool {K : PySem.W.Frag} {H : Hp} {v : V} {d : PyData} {Q : VK} (r : Rep K H v d) (q : Q (.bl (isB d)) H) : rIsi K [v, .ty "bool"] H Q := ⟨v, .ty "bool", _, _, _, rfl, .ty "bool", tyx_of r, kit_ty (kit_bool d), q⟩
theorem isi_tuple {K : PySem.W.Frag} {H : Hp} {v : V} {d : PyData} {Q : VK} (r : Rep K H v d) (q : Q (.bl (isT d)) H) : rIsi K [v, .ty "tuple"] H Q := ⟨v, .ty "tuple", _, _, _, rfl, .ty "tuple", tyx_of r, kit_ty (kit_tuple d), q⟩
/-! ### sums -/
theorem ints_of {ns : List Int} : ∀ {us : List Value}, Vals (ns.map V.int) us → IntsAre us ns := by
  induction ns with
  | nil =>
    intro us r
    cases r
    exact .nil
  | cons n ns ih =>
    intro us r
    cases r with
    | cons a b =>
      obtain ⟨t, rfl⟩ := a
      exact .cons _ _ (ih b)
theorem cr_sumT {X : Cx} (hc : X.calm = true) : CallR X (.builtin "sum") (fun vs H Q => ∃ (a : Addr) (ns : List Int), vs = [V.ref a] ∧ SqT X.K H a (ns.map V.int) ∧ Q (.int ns.sum) H) := by
  intro pins s σ H xs us Q I r h
  obtain ⟨a, ns, rfl, hs, q⟩ := h
  cases r with
  | cons rx rr =>
    cases rr
    obtain rfl : _ = Value.ref a := rx
    obtain ⟨its, rv, ht, hz⟩ := I.tuple hs
    have hi := ints_of rv
    obtain ⟨xs, hx⟩ := hi.allInts.items
    have hn : numsOf its.toArray.toList = ns := by rw [show its.toArray.toList = its from rfl, hi.numsOf]
    have hl : s.heap.IsTuple a its.toArray := ht
    rw [hx] at hl hn
    rw [nums_intItems] at hn
    refine PySem.W.ktm_sumG (I.ok.hd hc) hl fun h' tk t' hk => ?_
    rw [preSum_eq, List.take_of_length_le (by simp), hn]
    exact ⟨.int ns.sum, H, I.kept (t' := tk) hk, ⟨_, rfl⟩, q⟩
theorem pe_ty {X : Cx} {x : Str} {n : String} {pos : Pos} (hg : Gl X x) (hm : X.mg x = none) (hv : bootBuiltins x = some (.type n)) (hn : x ≠ "__name__" := by decide) (hdb : (x == ("__debug__" : Str)) = false := by decide) : PE X (.Name x pos) (tC (.ty n)) :=
  pe_bltn (v := .ty n) hg hm hv rfl hn hdb
end BK
set_option Elab.async false
set_option linter.all false
set_option maxRecDepth 100000
set_option maxHeartbeats 4000000
/-! KitF: heaps that grow beside the code tables; errors raised; the end of a law with tables. -/
namespace BK
open PySem PySem.Spec PyProof.Rows L2 LamX
/-- the tables of the defs that make lambdas, and of one that makes a generator -/
structure Tb (T : List (Addr × Str)) (PG : Addr) (H : Hp) : Prop where
  lam : Tabs T H
  gen : GxR.TabG H PG
theorem rd_ext {H H' : Hp} {a : Addr} {u : HO} (e : ExtN H H') (hu : ∀ ps, u ≠ .tbl ps) (h : Rd H a u) : Rd H' a u := by
  rcases h with h | ⟨o, h⟩
  · exact Or.inl (e a _ h hu)
  · exact Or.inr ⟨o, e a _ h (fun ps z => by cases z)⟩
theorem sql_ext {K : PySem.W.Frag} {H H' : Hp} {a : Addr} {xs : List V} (e : ExtN H H') (h : SqL K H a xs) : SqL K H' a xs := by
  rcases h with h | h
  · exact Or.inl (rd_ext e (fun ps z => by cases z) h)
  · exact Or.inr h
theorem sqt_ext {K : PySem.W.Frag} {H H' : Hp} {a : Addr} {xs : List V} (e : ExtN H H') (h : SqT K H a xs) : SqT K H' a xs := by
  rcases h with h | h
  · exact Or.inl (rd_ext e (fun ps z => by cases z) h)
  · exact Or.inr h
mutual
theorem Rep.ext {K : PySem.W.Frag} {H H' : Hp} (e : ExtN H H') : ∀ {v : V} {d : PyData}, Rep K H v d → Rep K H' v d
  | _, _, .non => .non
  | _, _, .bl b => .bl b
  | _, _, .int i => .int i
  | _, _, .str x => .str x
  | _, _, .lst h r => .lst (sql_ext e h) (RepAll.ext e r)
  | _, _, .tup h r => .tup (sqt_ext e h) (RepAll.ext e r)
theorem RepAll.ext {K : PySem.W.Frag} {H H' : Hp} (e : ExtN H H') : ∀ {vs : List V} {ds : List PyData}, RepAll K H vs ds → RepAll K H' vs ds
  | _, _, .nil => .nil
  | _, _, .cons h r => .cons (Rep.ext e h) (RepAll.ext e r)
end
theorem ext_new {H : Hp} {p : Addr} {o : HO} (h : H p = none) : ExtN H (upd H p o) := fun b u e _ => by
  rw [upd_ne (ne_of_none e h)]
  exact e
theorem tb_new {T : List (Addr × Str)} {PG : Addr} {H : Hp} {p : Addr} {o : HO} (h : H p = none) (t : Tb T PG H) : Tb T PG (upd H p o) := by
  have k : ∀ b u, H b = some u → upd H p o b = some u := fun b u e => by
    rw [upd_ne (ne_of_none e h)]
    exact e
  obtain ⟨ps, e1, e2⟩ := t.gen
  exact ⟨t.lam.ext k, ps, k _ _ e1, e2⟩
theorem ext_mut {H0 H : Hp} {p : Addr} {o : HO} (e : ExtN H0 H) (h : H0 p = none) : ExtN H0 (upd H p o) := fun b u x n => by
  rw [upd_ne (ne_of_none x h)]
  exact e b u x n
/-- an object that is no table changes -/
theorem tb_mut {T : List (Addr × Str)} {PG : Addr} {H : Hp} {p : Addr} {o u : HO} (h : H p = some u) (hu : ∀ ps, u ≠ .tbl ps) (hc : ∀ q, u ≠ CodeO p q) (t : Tb T PG H) : Tb T PG (upd H p o) := by
  have k : ∀ b ps, H b = some (.tbl ps) → upd H p o b = some (.tbl ps) := fun b ps e => by
    rw [upd_ne (fun z => by rw [z, h] at e; exact hu ps (Option.some.inj e))]
    exact e
  have k2 : ∀ c q, H c = some (CodeO c q) → upd H p o c = some (CodeO c q) := fun c q e => by
    rw [upd_ne (fun z => by
      subst z
      rw [h] at e
      exact hc q (Option.some.inj e))]
    exact e
  obtain ⟨ps, e1, e2⟩ := t.gen
  refine ⟨fun x hx => ?_, ps, k _ _ e1, e2⟩
  obtain ⟨ps', h1, h2, h3⟩ := t.lam x hx
  refine ⟨ps', k _ _ h1, h2, fun pos cv hcv => ?_⟩
  obtain ⟨c, a1, a2⟩ := h3 pos cv hcv
  exact ⟨c, a1, k2 _ _ a2⟩
/-! ### errors with a value -/
structure ErrV (P : Program) (w : World) (K : PySem.W.Frag) (mg : Str → Option Value) (base : Heap) (x f : Str) (C : Addr) : Prop where
  ex : ∃ (fI : Addr) (fd : FuncData), OexC K C ∧ PySem.W.findIn K (.ref C) "__init__" = some (some (.ref fI)) ∧ PySem.W.typeIn K (.ref fI) = some (.type "function") ∧
    FnOk P w K mg base L2.CX0 1 fI fd ["self", f] (spErr C f) ∧ Binds K fd ["self", f] [] ∧ mg x = some (.ref C)
section
variable {X : Cx} {x f : Str} {C : Addr} {e : Expr} {ta : TA} {p pos pos' : Pos}
theorem ps_raiseV {W : WX} (T : ErrV X.prog X.w X.K X.mg X.base x f C) (hc : X.calm = true) (tk : Takes X W) (hr : Room 2 X.A) (hg : Gl X x) (ha : PA X [e] ta)
    (hdb : (x == ("__debug__" : Str)) = false := by decide) (hst : starEach [e] X.env = (false, eval e X.env) :: starEach [] X.env := by rfl) :
    PS X (.Raise (some (.Call (.Name x p) [e] [] pos)) none pos') (fun _ σ H => tMkO C (spErr C f) [] ta σ H fun cls d H' => W cls d σ H') := by
  obtain ⟨fI, fd, h1, h2, h3, h4, h5, h6⟩ := T.ex
  exact ps_raise hc tk (pmk_err h1 h2 h3 h4 hr h5 hg h6 ha hdb hst)
end
end BK
set_option Elab.async false
set_option linter.all false
set_option maxRecDepth 100000
set_option maxHeartbeats 4000000
/-! KitX: generator expressions whose element runs in the layer: its frame, its turns, who draws from it. -/
namespace BK
open PySem PySem.Spec PyProof.Rows L2 LamX
/-- nothing but the table at P, and new things -/
def Grow (P : Addr) (q : Str) (H H' : Hp) : Prop := TabS H' P q ∧ ∀ b o, b ≠ P → H b = some o → H' b = some o
theorem Grow.ext {P : Addr} {q : Str} {H H' : Hp} (g : Grow P q H H') {ps : Array Value} (hP : H P = some (.tbl ps)) : ExtN H H' := fun b o e n => g.2 b o (fun z => n ps (Option.some.inj (e.symm.trans (by rw [z]; exact hP)))) e
section
variable {X : Cx} {pins : List (Addr × Obj)} {σ : L2.St} {H : Hp} {s : Shared}
/-- the generator's code object is known or is made -/
theorem code_grow {E : Value → Shared → Prop} {t : Shared} {c P : Addr} {pos : Pos} {q : Str} {scope : Scope} {Q : Value → Shared → Prop} (I : Inv X pins σ H t) (hc : X.env.code = .ref c) (TB : GxR.TabB X.base X.mg c P) (tS : TabS H P q)
    (h : ∀ (code : Value) (h3 : Heap) (tk : Nat) (H3 : Hp), Inv X pins σ H3 { t with heap := h3, toks := tk } → Grow P q H H3 → Heap.ExtBut P t.heap h3 → t.heap.objs.size ≤ h3.objs.size → (∀ b, b < t.heap.objs.size → H b = none → H3 b = none) → Q code { t with heap := h3, toks := tk }) :
    wpAny (model X.prog X.w) X.A (genexprCode X.env pos q scope) Q E t := by
  obtain ⟨ps, hP, ok, named⟩ := _root_.id tS
  have atP : t.heap.get? P = some { cls := .none, data := .fields ps } := I.hok P _ hP
  have cd : PySem.W.CodeHd t.heap c P := TB.code.keeps I.bk
  by_cases hf : ∃ cv, codeAmong pos ps.toList = some cv
  · obtain ⟨cv, hf⟩ := hf
    apply wpAny_genexprCode_hit hc (cd.code atP ok) hf
    exact h cv t.heap t.toks H I ⟨tS, fun _ _ _ e => e⟩ (Heap.ExtBut.refl _ _) (Nat.le_refl _) fun _ _ e => e
  · have nf : codeAmong pos ps.toList = none := by
      cases e : codeAmong pos ps.toList with
      | none => rfl
      | some cv => exact absurd ⟨cv, e⟩ hf
    apply wpAny_genexprCodeX hc (cd.code atP ok) (cd.tab atP) nf
    intro c' h' tk hx ge lt isC rec tab _
    obtain ⟨_, _, _, _, _, _, _, _, _, _, _, _, _, _, _, _, _, _, _, tr, _⟩ := isC
    have cO : ∃ (oc : Obj) (vs : Array Value) (t : Tok), h'.get? c' = some oc ∧ oc.data = .fields vs ∧ vs[1]? = some (.str q t) := by
      obtain ⟨c2, oc, vs, t, e, r⟩ := rec
      cases e
      exact ⟨oc, vs, t, r⟩
    have nC : H c' = none := I.hok.fresh ge
    have nP : P ≠ c' := ne_of_none hP nC
    refine h _ h' tk _ (LamX.inv_table I hP (fun b u n e => hx b u n e) tab.2 ge cO) ⟨⟨ps ++ #[rawInt pos.line, rawInt pos.col, .ref c'], ?_, tr, ?_⟩, ?_⟩ hx (Nat.le_trans ge (Nat.le_of_lt lt)) ?_
    · rw [upd_ne nP, upd_same]
    · intro pos' cv hcv
      rw [Array.toList_append] at hcv
      rcases LamX.among_app ps.toList ok hcv with e | e
      · obtain ⟨c3, e1, e2⟩ := named pos' cv e
        exact ⟨c3, e1, by rw [upd_ne (ne_of_none e2 nC), upd_ne (fun z => by rw [z, hP] at e2; cases e2)]; exact e2⟩
      · exact ⟨c', e, upd_same⟩
    · intro b u n e
      rw [upd_ne (ne_of_none e nC), upd_ne n]
      exact e
    · intro b lb nb
      rw [upd_ne (fun z => Nat.lt_irrefl _ (Nat.lt_of_lt_of_le lb (by rw [z]; exact ge))), upd_ne (fun z => by rw [z, hP] at nb; cases nb)]
      exact nb
end
/-! ### the frame of a generator expression -/
/-- its scope's names -/
structure GenN (N : List Str) (sc scope : Scope) (own : List (Str × Nat)) : Prop where
  blk : BlkOk N sc scope own
  co : scope.isCoroutine = false
  cell : ∀ y ∈ scope.names, y.2 ≠ .cell
  dot : scope.names.lookup (".0" : Str) = some NameKind.local
def genNB (N : List Str) (sc scope : Scope) (own : List (Str × Nat)) : Bool :=
  blkC N sc scope own && !scope.isCoroutine && (scope.names.all fun y => match y.2 with | .cell => false | _ => true) && (match scope.names.lookup (".0" : Str) with | some .local => true | _ => false)
theorem genN_by {N : List Str} {sc scope : Scope} {own : List (Str × Nat)} (h : genNB N sc scope own = true) : GenN N sc scope own := by
  unfold genNB at h
  simp only [Bool.and_eq_true, Bool.not_eq_true', List.all_eq_true] at h
  obtain ⟨⟨⟨h1, h2⟩, h3⟩, h4⟩ := h
  refine ⟨blkOk_by h1, h2, fun y hy e => ?_, ?_⟩
  · have q := h3 y hy
    rw [e] at q
    cases q
  · split at h4
    · assumption
    · cases h4
abbrev gEnv (X : Cx) (scope : Scope) (C : Addr) (code : Value) : Env := genEnv scope (cloFrom X.env.cells scope.names []) C code builtinsNs X.env
/-- the context of a generator expression's frame: made at s, H; B: the around of the one who draws -/
abbrev gCx (X : Cx) (B : Around) (s : Shared) (H : Hp) (scope : Scope) (C : Addr) (code : Value) (fp : List Addr) (pn : List (Addr × Obj)) : Cx :=
  { X with A := B.deeper (gEnv X scope C code), s_0 := s, H_0 := H, env := gEnv X scope C code, outer := X.stack, stack := gEnv X scope C code :: X.stack, ex := fp, fn := fun _ => false, calm := true, pn := pn, xe := fun _ _ => False }
section
variable {X : Cx} {pins : List (Addr × Obj)} {σ : L2.St} {H : Hp} {s : Shared}
theorem g_start {B : Around} {scope : Scope} {own : List (Str × Nat)} {fp : List Addr} {a : Addr} {go : Obj} {it code : Value} {h' : Heap} {tk : Nat} {gs : Array GenState} (I : Inv X pins σ H s) (ok : GenN X.N X.env.scope scope own) (hN : X.N.Nodup) (hh : B.handled = none) (hB : B.frames = some X.stack)
    (hfp : ∀ b ∈ fp, FpOk X pins H b ∧ b < s.heap.objs.size) (hns : h'.Ns s.heap.objs.size fun y => if y = ".0" then some it else none) (kp : ∀ b o, s.heap.get? b = some o → h'.get? b = some o) (hgs : AllBare gs)
    (ha : h'.get? a = some go) (ha1 : s.heap.objs.size < a) (hgo : ∀ v, go.data ≠ .cell v) :
    Inv (gCx X B s H scope s.heap.objs.size code fp [(a, go)]) [] (wipe σ (own.map (·.2))) H { s with heap := h', toks := tk, gens := gs } := by
  have hfree : ∀ y ∈ scope.names, y.2 = .free → ∃ c, X.env.cells.lookup y.1 = some c := fun y hy e => by
    rcases ok.blk.free y hy e with k | k
    · exact I.ok.has _ (.inl k)
    · exact I.ok.has _ (.inr k)
  have cm : ∀ {y c}, (cloFrom X.env.cells scope.names []).lookup y = some c → X.env.cells.lookup y = some c := fun {y c} e => by
    rcases cloFrom_mem (PySem.mem_of_lookup e) with hm | ⟨h1, h2⟩
    · cases hm
    · obtain ⟨c1, hc⟩ := hfree _ h1 rfl
      have hc : X.env.cells.lookup y = some c1 := hc
      have e2 : c = c1 := by
        rw [h2, hc] <;> rfl
      rw [e2]
      exact hc
  have look : ∀ {y}, scope.names.lookup y = some .free → ∃ c, (cloFrom X.env.cells scope.names []).lookup y = some c := fun {y} hl => by
    have hy : (y, NameKind.free) ∈ scope.names := PySem.mem_of_lookup hl
    exact mem_lookup (cloFrom_has (cells := X.env.cells) (acc := []) hy)
  have clt : ∀ {y c}, X.env.cells.lookup y = some c → c < s.heap.objs.size := fun {y c} e => by
    obtain ⟨v, z⟩ := I.cell y c e
    exact z.lt
  have okG : (gCx X B s H scope s.heap.objs.size code fp [(a, go)]).Ok := by
    refine ⟨I.ok.mod, ok.blk.kind, I.ok.glob, rfl, Nat.le_refl _, fun y z c e1 e2 => I.ok.inj y z c (cm e1) (cm e2), fun y hy => ?_, fun y c z _ => ?_, fun _ => hh, Around.frames_deeper hB, .inr ⟨rfl, rfl⟩, fun b hb => ⟨?_, fun y c e z => ?_⟩, I.bs, Nat.le_trans I.ok.bsz I.sz, fun b o e hb => ?_, fun b hb z => ?_, I.stack, I.stkFree⟩
    · have hy : scope.names.lookup y = some .cell ∨ scope.names.lookup y = some .free := hy
      rcases hy with hy | hy
      · exact absurd rfl (ok.cell _ (PySem.mem_of_lookup hy))
      · exact look hy
    · have z : false = true := z
      cases z
    · exact Nat.ne_of_lt (hfp b hb).2
    · exact (hfp b hb).1.2.2.2.2.1 y c (cm e) z
    · rcases (hfp b hb).1.2.2.2.1 with z | z
      · exact I.ok.noex b o e z
      · exact absurd (Nat.lt_of_lt_of_le (Heap.lt_size e) (Nat.le_trans I.ok.bsz z)) (Nat.lt_irrefl _)
    · rcases List.mem_cons.mp (I.stkSub b z) with z | z
      · exact (hfp b hb).1.2.1 z
      · exact (hfp b hb).1.2.2.1 z
  refine ⟨okG, rfl, hgs, Un.kept kp, ⟨_, hns, fun i y v e1 e2 e3 => ?_⟩, fun y c e => ?_, I.hok.fresh (Nat.le_refl _), fun y c e => ?_, fun p hp => ?_, I.hok.kept kp, by rw [wipe_length]; exact I.len⟩
  · obtain ⟨e2, hne⟩ := wipe_some e2
    have e3 : Vis scope y := e3
    have no : ¬ (scope.names.lookup y = some .local ∨ scope.names.lookup y = some .cell) := fun hh => by
      have : y ∈ own.map (·.1) ∨ y ∉ X.N := by
        rcases hh with z | z
        · exact ok.blk.own _ (PySem.mem_of_lookup z) (.inl rfl)
        · exact ok.blk.own _ (PySem.mem_of_lookup z) (.inr rfl)
      rcases this with e' | e'
      · obtain ⟨p, hp, hpy⟩ := List.mem_map.mp e'
        have e3 := ok.blk.ix p hp
        have : p.1 = y := hpy
        rw [this] at e3
        exact hne (List.mem_map.mpr ⟨p, hp, nodup_ix hN e3 e1⟩)
      · exact e' (List.mem_of_getElem? e1)
    have k : scope.names.lookup y = some .free := by
      rcases e3 with k | k | k
      · exact absurd (.inl k) no
      · exact absurd (.inr k) no
      · exact k
    obtain ⟨m, hn, hl⟩ := I.loc
    have hvis : Vis X.env.scope y := (ok.blk.free _ (PySem.mem_of_lookup k) rfl).elim (fun k => .inr (.inl k)) (fun k => .inr (.inr k))
    obtain ⟨w', r, q⟩ := hl i y v e1 e2 hvis
    obtain ⟨c2, h2⟩ := look k
    refine ⟨w', r, .inr ⟨.inr k, c2, h2, ?_⟩⟩
    have c1 := cm h2
    rcases q with ⟨k', _⟩ | ⟨_, c3, e', z⟩
    · have k' : X.env.scope.names.lookup y = some .local := k'
      rcases ok.blk.free _ (PySem.mem_of_lookup k) rfl with k2 | k2 <;> rw [show X.env.scope.names.lookup y = _ from k2] at k' <;> cases k'
    · rw [c1] at e'
      cases e'
      exact z.keeps kp
  · obtain ⟨w', z⟩ := I.cell y c (cm e)
    exact ⟨w', z.keeps kp⟩
  · exact I.freeC y c (cm e)
  · have hp : p ∈ [(a, go)] ++ ([] : List (Addr × Obj)) := hp
    rw [List.append_nil, List.mem_singleton] at hp
    subst hp
    refine ⟨ha, I.hok.fresh (Nat.le_of_lt ha1), Nat.ne_of_gt ha1, fun z => ?_, hgo⟩
    have z : a ∈ frs X.stack := z
    rcases List.mem_cons.mp (I.stkSub a z) with z | z
    · have := I.lt
      rw [← z] at this
      exact Nat.lt_irrefl _ (Nat.lt_trans this ha1)
    · exact I.nofs (Nat.le_of_lt ha1) z
end
/-- while it sleeps: nothing that stood is lost, but what is its consumer's own -/
structure Kept (ss : List Addr) (s s' : Shared) : Prop where
  os : s'.os = s.os
  bare : AllBare s'.gens
  keep : ∀ b o, b ∉ ss → s.heap.get? b = some o → s'.heap.get? b = some o
  there : ∀ b ∈ ss, ∃ o, s'.heap.get? b = some o ∧ ∀ v, o.data ≠ .cell v
/-- the consumer's own things: younger than the frame's making, none of its -/
structure Mine (Z : Cx) (fp ss : List Addr) : Prop where
  ok : ∀ b ∈ ss, b ≠ Z.env.locals ∧ b ∉ Z.fs ∧ Z.s_0.heap.objs.size ≤ b ∧ (∀ x c, Z.env.cells.lookup x = some c → c ≠ b) ∧ (∀ p ∈ Z.pn, p.1 ≠ b) ∧ b ∉ fp
section
variable (Z : Cx) (σw : L2.St) (fp ss : List Addr) (tn : Nat → Heap → Prop) (Wt : Nat → Nat → Nat → Hp → Prop) (Yd : Nat → Nat → Nat → V → Hp → Prop) (En : Nat → Hp → Prop) (N : Nat)
/-- ahead of turn i -/
structure GAt (i : Nat) (H : Hp) (s : Shared) : Prop where
  inv : Inv Z [] σw H s
  tn : tn i s.heap
  fp : ∀ b ∈ fp, H b = none
  ss : ∀ b ∈ ss, H b = none ∧ ∃ o, s.heap.get? b = some o ∧ ∀ v, o.data ≠ .cell v
def GEnd' : GenEnd := fun n s₀ r s => r = .ok .next ∧ ∃ j H, n + j = N ∧ Inv Z [] σw H s ∧ En j H ∧ (∀ b ∈ ss, H b = none) ∧ ∀ b ∈ ss, ∀ o, s₀.heap.get? b = some o → s.heap.get? b = some o
def GYld : Protocol := fun n s₀ v s kap => ∃ i r j y H, n + 1 + j = N ∧ RelV y v ∧ GAt Z σw fp ss tn (i + 1) H s ∧ Yd i r j y H ∧ (∀ b ∈ ss, ∀ o, s₀.heap.get? b = some o → s.heap.get? b = some o) ∧ ∀ s' r', r' < r → Wt (i + 1) r' (j + 1) H → Kept ss s s' → kap (.send .none) s'
end
theorem inv_sleep {Z : Cx} {σ : L2.St} {H : Hp} {s s' : Shared} {fp ss : List Addr} (M : Mine Z fp ss) (I : Inv Z [] σ H s) (hs : ∀ b ∈ ss, H b = none) (k : Kept ss s s') : Inv Z [] σ H s' := by
  have nt : ∀ b u, H b = some u → b ∉ ss := fun b u e z => by rw [hs b z] at e; cases e
  refine I.call' (ch := ss) k.os ⟨fun b o e n _ hb => k.keep b o hb e, fun b o e n _ hb => ⟨o.slots, k.keep b o hb e⟩, fun _ _ _ n _ => n, fun b o e hb => ⟨o, k.keep b o hb e⟩, fun _ _ q => q, fun _ _ _ q => q, fun _ ps q => ⟨#[], by rw [q]; simp⟩⟩ (fun b u e => ?_) k.bare fun b hb => ?_
  · refine (I.hok b u e).stay (fun c v hc q => k.keep c v ?_ q) (fun _ q => q) fun _ _ q => q
    rcases hc with z | z
    · rw [z]; exact nt b u e
    · exact nt c _ z
  · obtain ⟨h1, h2, h3, h4, h5, h6⟩ := M.ok b hb
    exact ⟨.inr h3, h1, h4, fun p hp => h5 p (by simpa using hp)⟩
theorem GAt.sleep {Z : Cx} {σw : L2.St} {fp ss : List Addr} {tn : Nat → Heap → Prop} {P : Program} {w : World} {K : PySem.W.Frag} {tg : Expr} {J : It} {it : Addr} (T : Turn P w K tg J fp it tn) (M : Mine Z fp ss) {i : Nat} {H : Hp} {s s' : Shared} (g : GAt Z σw fp ss tn i H s) (k : Kept ss s s') : GAt Z σw fp ss tn i H s' :=
  ⟨inv_sleep M g.inv (fun b hb => (g.ss b hb).1) k, T.keep _ _ _ g.tn fun b hb o e => k.keep b o (fun z => (M.ok b z).2.2.2.2.2 hb) e, g.fp, fun b hb => ⟨(g.ss b hb).1, k.there b hb⟩⟩
theorem over_gen {B : Around} {elt : Expr} {cs : List Comprehension} {scope : Scope} {pos : Pos} {it acc : Value} {env : Env} : B.over (.compLoop (.GeneratorExp elt cs scope pos) 0 it acc env) [] = B.deeper env := by
  obtain ⟨hd, d, fr, gs, u⟩ := B
  rfl
theorem over_gen0 {B : Around} {elt : Expr} {cs : List Comprehension} {scope : Scope} {pos : Pos} {it acc : Value} {env : Env} : B.over (.compStart (.GeneratorExp elt cs scope pos) 0 it acc env) [] = B.deeper env := by
  obtain ⟨hd, d, fr, gs, u⟩ := B
  rfl
/-- what one turn does -/
abbrev Turns (J : It) (g : TG) (tt : TT) (te : TE) (σ : L2.St) (vs : List Nat) (Wt : Nat → Nat → Nat → Hp → Prop) (Yd : Nat → Nat → Nat → V → Hp → Prop) (En : Nat → Hp → Prop) (N : Nat) : Prop :=
  ∀ i r j H, Wt i r j H → (J.stop i H ∧ En j H) ∨ (J.go i H ∧ ∀ x H', J.yld i H x H' → g x (wipe σ vs) H' fun σ2 H2 => wipe σ2 vs = wipe σ vs ∧ tt σ2 H2 fun b H3 =>
      if b = true then te σ2 H3 fun y H4 => j < N ∧ Yd i r j y H4 else ∃ r', r' < r ∧ Wt (i + 1) r' j H3)
/-- all that is said of the frame Z and of who draws in B -/
structure Gen (Z : Cx) (B : Around) (tg : Expr) (ifs : List Expr) (elt : Expr) (J : It) (fp ss : List Addr) (it : Addr) (tn : Nat → Heap → Prop) (g : TG) (tt : TT) (te : TE) : Prop where
  hA : Z.A = B.deeper Z.env
  hcalm : Z.calm = true
  hco : Z.env.scope.isCoroutine = false
  hxe : Z.xe = fun _ _ => False
  T : Turn Z.prog Z.w Z.K tg J fp it tn
  hfx : Z.ex = fp
  hfpn : ∀ p ∈ Z.pn, ∀ b ∈ fp, p.1 ≠ b
  M : Mine Z fp ss
  hg : PG Z tg g
  ht : PTs Z ifs tt
  he : PE Z elt te
section
variable {Z : Cx} {B : Around} {elt iter tg : Expr} {ifs : List Expr} {scope : Scope} {pos : Pos} {it : Addr} {vs : List Nat} {σ : L2.St} {J : It} {fp ss : List Addr} {tn : Nat → Heap → Prop} {g : TG} {tt : TT} {te : TE}
  {Wt : Nat → Nat → Nat → Hp → Prop} {Yd : Nat → Nat → Nat → V → Hp → Prop} {En : Nat → Hp → Prop} {N : Nat}
/-- the turns -/
theorem seg_turns (G : Gen Z B tg ifs elt J fp ss it tn g tt te) (turn : Turns J g tt te σ vs Wt Yd En N) :
    ∀ (r i j : Nat) (s₀ s : Shared) (H : Hp), j ≤ N → Wt i r j H → GAt Z (wipe σ vs) fp ss tn i H s → (∀ b ∈ ss, ∀ o, s₀.heap.get? b = some o → s.heap.get? b = some o) →
      Seg (model Z.prog Z.w) B (GEnd' Z (wipe σ vs) ss En N) (GYld Z (wipe σ vs) fp ss tn Wt Yd N) (N - j) s₀ (.compLoop (.GeneratorExp elt [⟨tg, iter, ifs, 0⟩] scope pos) 0 (.ref it) .none Z.env)
        ((model Z.prog Z.w).den (.compLoop (.GeneratorExp elt [⟨tg, iter, ifs, 0⟩] scope pos) 0 (.ref it) .none Z.env)) [] s := by
  obtain ⟨hA, hcalm, hco, hpn, T, hfx, hfpn, M, hg, ht, he⟩ := G
  have ov : B.over (.compLoop (.GeneratorExp elt [⟨tg, iter, ifs, 0⟩] scope pos) 0 (.ref it) .none Z.env) [] = Z.A := by rw [over_gen, hA]
  have stat : ∀ {pl : List (Addr × Obj)} {σ' : L2.St} {H' : Hp} {s' : Shared}, Inv Z pl σ' H' s' → (∀ p ∈ pl, p.1 ∈ ss) → (∀ b ∈ fp, H' b = none) → ∀ b ∈ fp, FpOk Z pl H' b := fun {pl σ' H' s'} I' hpl hn b hb => by
    have hbx : b ∈ Z.ex := by rw [hfx]; exact hb
    refine ⟨hn b hb, (I'.ok.exf b hbx).1, I'.ok.exfs b hbx, .inl hbx, fun x c e => (I'.ok.exf b hbx).2 x c e, fun p hp z => ?_⟩
    rcases List.mem_append.mp hp with q | q
    · exact hfpn p q b hb z
    · exact (M.ok p.1 (hpl p q)).2.2.2.2.2 (by rw [z]; exact hb)
  have own : ∀ {σ' : L2.St} {H' : Hp} {s' : Shared}, Inv Z [] σ' H' s' → (∀ b ∈ ss, H' b = none) → ∀ b ∈ ss, FpOk Z [] H' b := fun {σ' H' s'} I' hn b hb => by
    obtain ⟨h1, h2, h3, h4, h5, h6⟩ := M.ok b hb
    exact ⟨hn b hb, h1, h2, .inr h3, h4, fun p hp => h5 p (by simpa using hp)⟩
  intro r
  induction r using Nat.strongRecOn with
  | ind r ih =>
    intro i j s₀ s H hj w ga hold
    show Seg _ B _ _ _ s₀ _ ((compTurn (.GeneratorExp elt [⟨tg, iter, ifs, 0⟩] scope pos) 0 (.ref it) .none Z.env).onRaise (leaving Z.env)) [] s
    rw [compTurn_gen, Sem.onRaise_eq_wrap]
    refine seg_bind_wrap (wpAny_standAt ?_)
    have IP := ga.inv.pinned (own ga.inv fun b hb => (ga.ss b hb).1) (fun b hb => (ga.ss b hb).2)
    have mem : ∀ p ∈ ([] ++ pinsAt ss s.heap : List (Addr × Obj)), p.1 ∈ ss := fun p hp => (of_pinsAt (by simpa using hp)).1
    have held : ∀ {pl : List (Addr × Obj)} {σ' : L2.St} {H' : Hp} {s' : Shared}, Inv Z (([] ++ pinsAt ss s.heap) ++ pl) σ' H' s' → ∀ b ∈ ss, H' b = none ∧ ∀ o, s.heap.get? b = some o → s'.heap.get? b = some o := fun {pl σ' H' s'} I' b hb => by
      obtain ⟨o, e, _⟩ := (ga.ss b hb).2
      obtain ⟨z1, z2, _⟩ := I'.pin (b, o) (List.mem_append_right _ (List.mem_append_left _ (List.mem_append_right _ (mem_pinsAt hb e))))
      refine ⟨z2, fun o' e' => ?_⟩
      rw [e] at e'
      cases e'
      exact z1
    rcases turn i r j H w with ⟨stop, qe⟩ | ⟨go, step⟩
    · refine seg_bind_wrap ?_
      rw [ov]
      refine thnF (T.done Z rfl rfl rfl hcalm i _ s _ H (fun _ _ => False) IP (stat IP mem ga.fp) ga.tn stop) fun r1 s1 ⟨hr, I1⟩ => ?_
      subst hr
      have hd := held (pl := []) (by rw [List.append_nil]; exact I1)
      exact seg_end (.ok .next) ⟨rfl, j, H, by omega, I1.unpinned (pins := []), qe, fun b hb => (hd b hb).1, fun b hb o e => (hd b hb).2 o (hold b hb o e)⟩
    · refine seg_bind_wrap ?_
      rw [ov]
      refine thnF (T.item Z rfl rfl rfl hcalm i _ s _ H (fun _ _ => False) IP (stat IP mem ga.fp) ga.tn go) fun r1 s1 ⟨u, hr, h1⟩ => ?_
      subst hr
      refine seg_bind_wrap ?_
      rw [ov]
      refine thnF h1 fun _ s2 ⟨x, H2, I2, r2, y2, st2, n2⟩ => ?_
      have I2' := I2.pinned (stat I2 mem n2) (T.obj _ _ st2)
      have xf : ∀ {α : Type} {t : Sem α} {Q : α → Shared → Prop} {s : Shared}, wpAny (model Z.prog Z.w) Z.A t Q Z.xe s → wpAny (model Z.prog Z.w) Z.A t Q (fun _ _ => False) s := fun h => by rw [hpn] at h; exact h
      refine seg_bind_wrap ?_
      rw [ov]
      refine thnF (xf (hg.run _ s2 _ H2 x u _ I2' r2 (step x H2 y2))) fun _ s3 ⟨σ3, H3, I3, hw3, q3⟩ => ?_
      refine seg_bind_wrap ?_
      rw [ov]
      refine thnF (xf (ht.run _ s3 σ3 H3 _ I3 q3)) fun b s4 ⟨H4, I4, q4⟩ => ?_
      have fin : ∀ {s' : Shared} {H' : Hp}, Inv Z (([] ++ pinsAt ss s.heap) ++ pinsAt fp s2.heap) σ3 H' s' → GAt Z (wipe σ vs) fp ss tn (i + 1) H' s' := fun {s' H'} I' => by
        have pin' : ∀ b ∈ fp, ∀ o, s2.heap.get? b = some o → s'.heap.get? b = some o ∧ H' b = none := fun b hb o e =>
          let z := I'.pin (b, o) (List.mem_append_right _ (List.mem_append_right _ (mem_pinsAt hb e)))
          ⟨z.1, z.2.1⟩
        have hl : (wipe σ vs).length = σ3.length := by rw [← hw3, wipe_length]
        refine ⟨((I'.unpinned (pins := [] ++ pinsAt ss s.heap)).unpinned (pins := [])).weak hl (fun j v e => ?_), T.keep _ _ _ st2 fun b hb o e => (pin' b hb o e).1, fun b hb => ?_, fun b hb => ?_⟩
        · rw [← hw3] at e
          exact (wipe_some e).1
        · obtain ⟨o, e, _⟩ := T.obj _ _ st2 b hb
          exact (pin' b hb o e).2
        · obtain ⟨o, e, d⟩ := (ga.ss b hb).2
          exact ⟨(held I' b hb).1, o, (held I' b hb).2 o e, d⟩
      cases b with
      | false =>
        simp only [Bool.false_eq_true, if_false] at q4 ⊢
        obtain ⟨r', hr', w'⟩ := q4
        exact seg_again rfl (ih r' hr' (i + 1) j s₀ s4 H4 hj w' (fin I4) fun b hb o e => (held I4 b hb).2 o (hold b hb o e))
      | true =>
        simp only [if_true] at q4 ⊢
        have hy : ∀ v, yieldOut Z.env v = yieldValue v := fun v => by simp only [yieldOut, hco, Bool.false_eq_true, if_false]
        simp only [hy]
        rw [Sem.bind_eq_wrap', Sem.bind_eq_wrap', Sem.wrap_wrap, Sem.wrap_wrap]
        refine seg_wrap ?_
        rw [ov]
        refine thnF (xf (he.run _ s4 σ3 H4 _ I4 q4)) fun v s5 ⟨y, H5, I5, r5, jn, yd⟩ => ?_
        have en : N - j = (N - (j + 1)) + 1 := by omega
        rw [en]
        refine seg_at (seg_yield rfl rfl rfl ⟨i, r, j, y, H5, by omega, r5, fin I5, yd, fun b hb o e => (held I5 b hb).2 o (hold b hb o e), fun s' r' hr' w' k => ?_⟩)
        exact seg_again rfl (ih r' hr' (i + 1) (j + 1) s' s' H5 jn w' ((fin I5).sleep T M k) fun _ _ _ e => e)
/-- its beginning -/
theorem seg_begin (G : Gen Z B tg ifs elt J fp ss it tn g tt te) (turn : Turns J g tt te σ vs Wt Yd En N)
    (r : Nat) (s₀ s : Shared) (H : Hp) (w : Wt 0 r 0 H) (ga : GAt Z (wipe σ vs) fp ss tn 0 H s) (hold : ∀ b ∈ ss, ∀ o, s₀.heap.get? b = some o → s.heap.get? b = some o) :
      Seg (model Z.prog Z.w) B (GEnd' Z (wipe σ vs) ss En N) (GYld Z (wipe σ vs) fp ss tn Wt Yd N) N s₀ (.compStart (.GeneratorExp elt [⟨tg, iter, ifs, 0⟩] scope pos) 0 (.ref it) .none Z.env)
        ((model Z.prog Z.w).den (.compStart (.GeneratorExp elt [⟨tg, iter, ifs, 0⟩] scope pos) 0 (.ref it) .none Z.env)) [] s := by
  have loop := seg_turns (iter := iter) (scope := scope) (pos := pos) G turn r 0 0 s₀ s H (Nat.zero_le _) w ga hold
  have T := G.T
  show Seg _ B _ _ _ s₀ _ ((compStart (.GeneratorExp elt [⟨tg, iter, ifs, 0⟩] scope pos) 0 (.ref it) .none Z.env).onRaise (leaving Z.env)) [] s
  unfold compStart
  rw [Sem.onRaise_eq_wrap]
  show Seg _ B _ _ _ s₀ _ ((ask >>= _).wrap _ _ _ _) [] s
  refine seg_bind_wrap (wpAny_askSetting ?_)
  split
  · exact seg_again rfl loop
  · first
      | exact seg_bind_wrap (wpAny_rule (seg_bind_wrap (wpAny_standAt (seg_bind_wrap (T.self _ 0 s _ _ ga.tn (seg_again rfl loop))))))
      | (refine seg_bind_wrap (wpAny_rule ?_); show Seg _ B _ _ _ s₀ _ ((standAt iter.pos >>= _).wrap _ _ _ _) [] s; exact seg_bind_wrap (wpAny_standAt (seg_bind_wrap (T.self _ 0 s _ _ ga.tn (seg_again rfl loop)))))
end
/-! ### who draws -/
/-- the generator sleeps: at most n more -/
def Sleeps (Z : Cx) (B : Around) (σw : L2.St) (fp ss : List Addr) (tn : Nat → Heap → Prop) (Wt : Nat → Nat → Nat → Hp → Prop) (Yd : Nat → Nat → Nat → V → Hp → Prop) (En : Nat → Hp → Prop) (N g n : Nat) (s : Shared) : Prop :=
  ∃ gs, s.gens[g]? = some gs ∧ ∀ s', Kept ss s s' → gs.Goes (model Z.prog Z.w) B (GEnd' Z σw ss En N) (GYld Z σw fp ss tn Wt Yd N) n (.send .none) s'
theorem kept_setGen {ss : List Addr} {s : Shared} {g : Nat} {x : GenState} (h : AllBare s.gens) (hx : x.bare = true) (ht : ∀ b ∈ ss, ∃ o, s.heap.get? b = some o ∧ ∀ v, o.data ≠ .cell v) : Kept ss s (s.setGen g x) :=
  ⟨rfl, allBare_setGen h hx, fun _ _ _ e => e, ht⟩
section
variable {Z : Cx} {A : Around} {σw : L2.St} {fp ss : List Addr} {tn : Nat → Heap → Prop} {Wt : Nat → Nat → Nat → Hp → Prop} {Yd : Nat → Nat → Nat → V → Hp → Prop} {En : Nat → Hp → Prop} {N g n : Nat} {s : Shared} {a : Addr}
theorem gen_next {P : Program} {w : World} {K : PySem.W.Frag} {tg : Expr} {J : It} {it : Addr} {H : Hp} {Q : Option Value → Shared → Prop} {E : Value → Shared → Prop} (hh : A.handled = none) (hroom : A.depth < recursionLimit) (T : Turn P w K tg J fp it tn) (M : Mine Z fp ss)
    (hgo : ∀ {h : Heap}, (∀ p ∈ Z.pn, h.get? p.1 = some p.2) → h.IsGen a g) (I : Inv Z [] σw H s) (hs : ∀ b ∈ ss, H b = none ∧ ∃ o, s.heap.get? b = some o ∧ ∀ v, o.data ≠ .cell v) (sl : Sleeps Z A.in1 σw fp ss tn Wt Yd En N g n s)
    (hY : ∀ v s1 i r j y H', n - 1 + 1 + j = N → RelV y v → GAt Z σw fp ss tn (i + 1) H' s1 → Yd i r j y H' → (∀ b ∈ ss, ∀ o, s.heap.get? b = some o → s1.heap.get? b = some o) → (∀ r', r' < r → Wt (i + 1) r' (j + 1) H' → ∃ m, n = m + 1 ∧ Sleeps Z A.in1 σw fp ss tn Wt Yd En N g m s1) → Q (some v) s1)
    (hE : ∀ s1 j H', n + j = N → Inv Z [] σw H' s1 → En j H' → (∀ b ∈ ss, H' b = none) → (∀ b ∈ ss, ∀ o, s.heap.get? b = some o → s1.heap.get? b = some o) → Q none s1) :
    wpAny (model Z.prog Z.w) A (pyNext (.ref a)) Q E s := by
  obtain ⟨gs, hgs, hgoes⟩ := sl
  have pins : ∀ {σ' : L2.St} {H' : Hp} {s' : Shared}, Inv Z [] σ' H' s' → ∀ p ∈ Z.pn, s'.heap.get? p.1 = some p.2 := fun {σ' H' s'} I' p hp => (I'.pin p (List.mem_append_left _ hp)).1
  have lt : g < s.gens.size := (Array.getElem?_eq_some_iff.mp hgs).1
  refine GenW.wpAny_gsz (n := g + 1) lt (wpAny_pyNext_genexpQ (P := fun n s₀ s1 => ∃ j H, n + j = N ∧ Inv Z [] σw H s1 ∧ En j H ∧ (∀ b ∈ ss, H b = none) ∧ ∀ b ∈ ss, ∀ o, s₀.heap.get? b = some o → s1.heap.get? b = some o) hh I.nolimit hroom (hgo (pins I)) hgs
    (hgoes _ (kept_setGen I.bare rfl fun b hb => (hs b hb).2)) (fun v s1 gs' hb hv => ?_) fun s1 hp h' hk => ?_)
  · intro hsz
    obtain ⟨i', r, j, y, H', e1, e2, ga, yd, old, kap⟩ := hv
    have k1 : Kept ss s1 (s1.setGen g gs') := kept_setGen ga.inv.bare hb fun b hb => (ga.ss b hb).2
    refine hY v _ i' r j y H' e1 e2 (ga.sleep T M k1) yd old fun r' hr' w' => ?_
    have kz : ∀ s', Kept ss (s1.setGen g gs') s' → Kept ss s1 s' := fun s' k => ⟨k.os, k.bare, k.keep, k.there⟩
    cases n with
    | zero => exact (kap s1 r' hr' w' ⟨rfl, ga.inv.bare, fun _ _ _ e => e, fun b hb => (ga.ss b hb).2⟩).elim
    | succ m =>
      have hsz1 : g < s1.gens.size := by
        have q : (s1.setGen g gs').gens.size = s1.gens.size := GenW.setGen_size _ _ _
        have hsz' : g + 1 ≤ (s1.setGen g gs').gens.size := hsz
        omega
      exact ⟨m, rfl, gs', setGen_at hsz1, fun s' k => kap s' r' hr' w' (kz s' k)⟩
  · intro hsz
    obtain ⟨j, H', e1, I', en, hn, old⟩ := hp
    have k1 : Kept [] s1 { s1.setGen g .finished with heap := h' } := ⟨rfl, allBare_setGen I'.bare rfl, fun b o _ e => hk b o e, fun b hb => by simp at hb⟩
    exact hE _ j H' e1 (inv_sleep (fp := fp) ⟨fun b hb => by simp at hb⟩ I' (fun b hb => by simp at hb) k1) en hn fun b hb o e => hk b o (old b hb o e)
end
end BK
set_option Elab.async false
set_option linter.all false
set_option maxRecDepth 100000
set_option maxHeartbeats 4000000
/-! KitY: all, any, sum of a generator expression whose element runs in the layer. -/
namespace BK
open PySem PySem.Spec PyProof.Rows L2 LamX
/-- a generator just made: X's context stands at s4, the generator at s5 -/
structure Born (X : Cx) (pins : List (Addr × Obj)) (σ : L2.St) (own : List (Str × Nat)) (tg elt iter : Expr) (ifs : List Expr) (scope : Scope) (gpos : Pos) (J : It) (H2 : Hp) (s4 s5 : Shared) (fp : List Addr) (it : Addr) (tn : Nat → Heap → Prop) (code : Value) (a : Addr) (go : Obj) (g : Nat) : Prop where
  I : Inv X pins σ H2 s4
  hfp : ∀ b ∈ fp, FpOk X pins H2 b ∧ b < s4.heap.objs.size
  T : Turn X.prog X.w X.K tg J fp it tn
  t0 : tn 0 s4.heap
  os : s5.os = s4.os
  bare : AllBare s5.gens
  keep : ∀ b o, s4.heap.get? b = some o → s5.heap.get? b = some o
  ns : s5.heap.Ns s4.heap.objs.size fun y => if y = ".0" then some (.ref it) else none
  ga : s5.heap.get? a = some go
  ca : s4.heap.objs.size < a
  al : a < s5.heap.objs.size
  gn : ∀ h : Heap, h.get? a = some go → h.IsGen a g
  gc : ∀ v, go.data ≠ .cell v
  gg : s5.gens[g]? = some (.fresh (.compStart (.GeneratorExp elt [⟨tg, iter, ifs, 0⟩] scope gpos) 0 (.ref it) .none (gEnv X scope s4.heap.objs.size code)))
section
variable {X : Cx} {pins : List (Addr × Obj)} {σ : L2.St} {H : Hp} {s : Shared}
theorem gen_born {c P : Addr} {elt iter tg : Expr} {ifs : List Expr} {gpos : Pos} {scope : Scope} {own : List (Str × Nat)} {wi : TI} {Q' : Value → Shared → Prop} {R : It → Hp → Prop} (hroom : X.A.depth < recursionLimit)
    (TB : GxR.TabB X.base X.mg c P) (hcode : X.env.code = .ref c) (S : GenN X.N X.env.scope scope own) (hi : PI X tg iter wi) (hs : ∀ v, genFold iter X.env v = pure v)
    (I : Inv X pins σ H s) (h : wi σ H R) (hR : ∀ J H1, R J H1 → TabS H1 P (X.env.qual ++ "<genexpr>"))
    (hQ : ∀ (J : It) (H1 H2 : Hp) (s4 s5 : Shared) (fp : List Addr) (it : Addr) (tn : Nat → Heap → Prop) (code : Value) (a : Addr) (go : Obj) (g : Nat), R J H1 → Grow P (X.env.qual ++ "<genexpr>") H1 H2 → Born X pins σ own tg elt iter ifs scope gpos J H2 s4 s5 fp it tn code a go g → Q' (.ref a) s5) :
    wpAny (model X.prog X.w) X.A (eval (.GeneratorExp elt [⟨tg, iter, ifs, 0⟩] scope gpos) X.env) Q' X.xe s := by
  have hfree : ∀ y ∈ scope.names, y.2 = .free → ∃ c, X.env.cells.lookup y.1 = some c := fun y hy e => by
    rcases S.blk.free y hy e with k | k
    · exact I.ok.has _ (.inl k)
    · exact I.ok.has _ (.inr k)
  refine wpAny_GeneratorExp_make S.co (closure_ok hfree) S.cell S.dot S.blk.kind hroom (thn (hi.run pins s σ H _ I h) fun xv s1 h1 => thn h1 fun itv s2 h2 => ?_) hs
  obtain ⟨it, fp, tn, J, H1, e, I2, T, st2, f2, r⟩ := h2
  subst e
  refine ⟨I2.nolimit, ?_⟩
  have tS := hR J H1 r
  obtain ⟨ps, hP, _, _⟩ := id tS
  refine code_grow I2 hcode TB tS fun code h3 tk H3 I3 gr ext sz old => ?_
  obtain ⟨bm, ob, e1, e2, e3, e4, e5, e6, e7, e8⟩ := TB.bm
  have hbm : h3.get? bm = some ob := ext _ _ e4 (I2.bk _ _ e5)
  refine wpAny_builtinsFor (m := X.mg) (by rw [I2.ok.glob]; exact (I2.mod.glob.keeps I2.bk).extBut ext TB.gP) e1 e2 hbm e6 e7 e8 ?_
  intro h' hns hsb
  have nP : ∀ b ∈ fp, b ≠ P := fun b hb z => by
    have := (f2 b hb).1
    rw [z, hP] at this
    cases this
  have lt2 : ∀ b ∈ fp, b < s2.heap.objs.size := fun b hb => by
    obtain ⟨o, e, _⟩ := T.obj _ _ st2 b hb
    exact Heap.lt_size e
  have sz' : h'.objs.size = h3.objs.size + 1 := by rw [hsb.1, Heap.size_push]
  have keep' : ∀ b o, h3.get? b = some o → h'.get? b = some o := fun b o e => hsb.extBut b o (Nat.ne_of_lt (Heap.lt_size e)) (Heap.get?_push_of_some _ e)
  refine hQ J H1 H3 { s2 with heap := h3, toks := tk } _ fp it tn code h'.objs.size { cls := .type "generator", data := .fields #[.int s2.gens.size 0, .str "<genexpr>" (tk + 1), .str (X.env.qual ++ "<genexpr>") (tk + 1 + 1)] } s2.gens.size r gr ⟨I3, fun b hb => ⟨⟨old b (lt2 b hb) (f2 b hb).1, (f2 b hb).2⟩, Nat.lt_of_lt_of_le (lt2 b hb) sz⟩, T, ?_, rfl, ?_, fun b o e => Heap.get?_push_of_some _ (keep' b o e), hns.push _, Heap.get?_push_size _ rfl, ?_, ?_, fun h e => ⟨_, _, _, e, rfl, rfl, rfl⟩, (fun v z => by cases z), Array.getElem?_push_size ..⟩
  · exact T.keep _ _ _ st2 fun b hb o e => ext b o (nP b hb) e
  · exact AllBare.push I3.bare rfl
  · show h3.objs.size < h'.objs.size
    omega
  · show h'.objs.size < (h'.push _).objs.size
    rw [Heap.size_push]
    exact Nat.lt_succ_self _
variable {own : List (Str × Nat)} {tg elt iter : Expr} {ifs : List Expr} {scope : Scope} {gpos : Pos} {J : It} {H2 : Hp} {s4 s5 : Shared} {fp : List Addr} {it : Addr} {tn : Nat → Heap → Prop} {code : Value} {a : Addr} {go : Obj} {g : Nat}
/-- back in the def's context -/
theorem Born.back (b : Born X pins σ own tg elt iter ifs scope gpos J H2 s4 s5 fp it tn code a go g) {B : Around} {σw : L2.St} {H' : Hp} {s' : Shared} (I' : Inv (gCx X B s4 H2 scope s4.heap.objs.size code fp [(a, go)]) [] σw H' s') : Inv X pins σ H' s' :=
  b.I.call' (ch := fp) I'.os I'.base I'.hok I'.bare fun c hc => ⟨(b.hfp c hc).1.2.2.2.1, (b.hfp c hc).1.2.1, (b.hfp c hc).1.2.2.2.2.1, (b.hfp c hc).1.2.2.2.2.2⟩
theorem Born.start (b : Born X pins σ own tg elt iter ifs scope gpos J H2 s4 s5 fp it tn code a go g) (S : GenN X.N X.env.scope scope own) (hN : X.N.Nodup) {B : Around} (hh : B.handled = none) (hB : B.frames = some X.stack) :
    Inv (gCx X B s4 H2 scope s4.heap.objs.size code fp [(a, go)]) [] (wipe σ (own.map (·.2))) H2 s5 := by
  have h := g_start (B := B) (code := code) (tk := s5.toks) (gs := s5.gens) b.I S hN hh hB b.hfp b.ns b.keep b.bare b.ga b.ca b.gc
  have e : ({ s4 with heap := s5.heap, toks := s5.toks, gens := s5.gens } : Shared).os = s5.os := b.os.symm
  exact inv_sleep (fp := []) (ss := []) ⟨fun c hc => by simp at hc⟩ h (fun c hc => by simp at hc) ⟨e.symm, b.bare, fun _ _ _ z => z, fun c hc => by simp at hc⟩
/-- the consumer's things ss, new behind the generator -/
theorem Born.mine (b : Born X pins σ own tg elt iter ifs scope gpos J H2 s4 s5 fp it tn code a go g) (S : GenN X.N X.env.scope scope own) (B : Around) {ss : List Addr} (hss : ∀ c ∈ ss, s5.heap.objs.size ≤ c) : Mine (gCx X B s4 H2 scope s4.heap.objs.size code fp [(a, go)]) fp ss := by
  have l4 : s4.heap.objs.size < s5.heap.objs.size := Nat.lt_trans b.ca b.al
  refine ⟨fun c hc => ?_⟩
  have h := hss c hc
  have h4 : s4.heap.objs.size < c := Nat.lt_of_lt_of_le l4 h
  refine ⟨Nat.ne_of_gt h4, fun z => ?_, Nat.le_of_lt h4, fun y d e z => ?_, fun p hp z => ?_, fun z => Nat.lt_irrefl _ (Nat.lt_trans (b.hfp c z).2 h4)⟩
  · have z : c ∈ frs X.stack := z
    rcases List.mem_cons.mp (b.I.stkSub c z) with q | q
    · have := b.I.lt
      rw [← q] at this
      exact Nat.lt_irrefl _ (Nat.lt_trans this h4)
    · exact b.I.nofs (Nat.le_of_lt h4) q
  · have e : (cloFrom X.env.cells scope.names []).lookup y = some d := e
    have k : X.env.cells.lookup y = some d := by
      rcases cloFrom_mem (PySem.mem_of_lookup e) with hm | ⟨h1, h2⟩
      · cases hm
      · rcases S.blk.free _ h1 rfl with k | k
        · obtain ⟨c1, hc⟩ := b.I.ok.has _ (.inl k)
          rw [h2, hc]
          rfl
        · obtain ⟨c1, hc⟩ := b.I.ok.has _ (.inr k)
          rw [h2, hc]
          rfl
    obtain ⟨v, q⟩ := b.I.cell y d k
    have := q.lt
    rw [z] at this
    exact Nat.lt_irrefl _ (Nat.lt_trans this h4)
  · have e : p = (a, go) := by simpa using hp
    rw [e] at z
    have z : a = c := z
    have := b.al
    rw [z] at this
    exact Nat.lt_irrefl _ (Nat.lt_of_lt_of_le this h)
/-- all is ready for the drawing -/
theorem Born.gen (b : Born X pins σ own tg elt iter ifs scope gpos J H2 s4 s5 fp it tn code a go g) (S : GenN X.N X.env.scope scope own) {B : Around} {ss : List Addr} {gt : TG} {tt : TT} {te : TE} (hss : ∀ c ∈ ss, s5.heap.objs.size ≤ c)
    (hg : PG (gCx X B s4 H2 scope s4.heap.objs.size code fp [(a, go)]) tg gt) (ht : PTs (gCx X B s4 H2 scope s4.heap.objs.size code fp [(a, go)]) ifs tt) (he : PE (gCx X B s4 H2 scope s4.heap.objs.size code fp [(a, go)]) elt te) :
    Gen (gCx X B s4 H2 scope s4.heap.objs.size code fp [(a, go)]) B tg ifs elt J fp ss it tn gt tt te where
  hA := rfl
  hcalm := rfl
  hco := S.co
  hxe := rfl
  T := b.T
  hfx := rfl
  hfpn := fun p hp c hc z => by
    have e : p = (a, go) := by simpa using hp
    rw [e] at z
    have z : a = c := z
    have := (b.hfp c hc).2
    rw [← z] at this
    exact Nat.lt_irrefl _ (Nat.lt_trans this b.ca)
  M := b.mine S B hss
  hg := hg
  ht := ht
  he := he
/-- it sleeps at its beginning, in a state s6 where the consumer's things are laid -/
theorem Born.asleep (b : Born X pins σ own tg elt iter ifs scope gpos J H2 s4 s5 fp it tn code a go g) (S : GenN X.N X.env.scope scope own) (hN : X.N.Nodup) {B : Around} (hh : B.handled = none) (hB : B.frames = some X.stack) {ss : List Addr} {gt : TG} {tt : TT} {te : TE} {Wt : Nat → Nat → Nat → Hp → Prop} {Yd : Nat → Nat → Nat → V → Hp → Prop} {En : Nat → Hp → Prop} {N r : Nat}
    (G : Gen (gCx X B s4 H2 scope s4.heap.objs.size code fp [(a, go)]) B tg ifs elt J fp ss it tn gt tt te) (turn : Turns J gt tt te σ (own.map (·.2)) Wt Yd En N) (w : Wt 0 r 0 H2) (hss : ∀ c ∈ ss, s5.heap.objs.size ≤ c) {s6 : Shared} (k : Kept ss s5 s6) (hgg : s6.gens = s5.gens) :
    GAt (gCx X B s4 H2 scope s4.heap.objs.size code fp [(a, go)]) (wipe σ (own.map (·.2))) fp ss tn 0 H2 s6 ∧ Sleeps (gCx X B s4 H2 scope s4.heap.objs.size code fp [(a, go)]) B (wipe σ (own.map (·.2))) fp ss tn Wt Yd En N g N s6 := by
  have I5 := b.start S hN hh hB
  have hn : ∀ c ∈ ss, H2 c = none := fun c hc => I5.hok.fresh (hss c hc)
  have nfp : ∀ c ∈ fp, c ∉ ss := fun c hc z => by
    have h1 := (b.hfp c hc).2
    have h2 := hss c z
    exact Nat.lt_irrefl _ (Nat.lt_trans (Nat.lt_of_lt_of_le h1 (Nat.le_trans (Nat.le_of_lt (Nat.lt_trans b.ca b.al)) h2)) (Nat.lt_succ_self _) |> fun _ => Nat.lt_of_lt_of_le h1 (Nat.le_trans (Nat.le_of_lt (Nat.lt_trans b.ca b.al)) h2))
  have ga : GAt (gCx X B s4 H2 scope s4.heap.objs.size code fp [(a, go)]) (wipe σ (own.map (·.2))) fp ss tn 0 H2 s6 :=
    ⟨inv_sleep G.M I5 hn k, b.T.keep _ _ _ b.t0 fun c hc o e => k.keep c o (nfp c hc) (b.keep c o e), fun c hc => (b.hfp c hc).1.1, fun c hc => ⟨hn c hc, k.there c hc⟩⟩
  refine ⟨ga, .fresh _, by rw [hgg]; exact b.gg, fun s' k' => ⟨rfl, ?_⟩⟩
  exact seg_begin (iter := iter) (scope := scope) (pos := gpos) G turn r s' s' H2 w (ga.sleep b.T G.M k') fun _ _ _ e => e
theorem frames_in1 {A : Around} {l : List Env} (h : A.frames = some l) : A.in1.frames = some l := h
end
/-! ### all, any -/
section
variable {Z : Cx} {A : Around} {σw : L2.St} {fp : List Addr} {tn : Nat → Heap → Prop} {Wt : Nat → Nat → Nat → Hp → Prop} {N g : Nat} {a : Addr} {P : Program} {w : World} {K : PySem.W.Frag} {tg : Expr} {J : It} {it : Addr} {Fin : Bool → Hp → Prop} {R : Result → Shared → Prop}
/-- what is wanted of an item: it goes on at the answer b0, else it is the end -/
abbrev ydB (b0 : Bool) (Wt : Nat → Nat → Nat → Hp → Prop) (Fin : Bool → Hp → Prop) : Nat → Nat → Nat → V → Hp → Prop := fun i r j y H => ∃ b, y = .bl b ∧ if b = b0 then ∃ r', r' < r ∧ Wt (i + 1) r' (j + 1) H else Fin b H
theorem all_draws (hh : A.handled = none) (hroom : A.depth < recursionLimit) (T : Turn P w K tg J fp it tn) (M : Mine Z fp []) (hgo : ∀ {h : Heap}, (∀ p ∈ Z.pn, h.get? p.1 = some p.2) → h.IsGen a g)
    (hR : ∀ b H s', Inv Z [] σw H s' → Fin b H → R (.ok (.ret (.bool b))) s') : ∀ (n : Nat) (s : Shared) (H : Hp), Inv Z [] σw H s → Sleeps Z A.in1.in1 σw fp [] tn Wt (ydB true Wt Fin) (fun _ H => Fin true H) N g n s →
      codeAny (model Z.prog Z.w) A (.builtin "all.loop" ⟨[.ref a], []⟩) R s := by
  intro n
  induction n with
  | zero =>
    intro s H I sl
    refine codeAny_builtin F.entry_all_loop ?_
    rw [Around.under_plainId F.plain_all_loop _]
    show wpAny _ A.in1 (pyNext (.ref a) >>= _) _ _ s
    refine wpAny_bind (gen_next (A := A.in1) hh hroom T M hgo I (fun b hb => by simp at hb) sl (fun v s1 i r j y H' _ rv ga yd _ more => ?_) fun s1 j H' _ I' en _ _ => ?_)
    · obtain ⟨b, rfl, q⟩ := yd
      obtain rfl : v = Value.bool b := rv
      refine wpAny_bind (wpAny_holding (wpAny_truthy_bool ?_))
      refine wpAny_bind (wpAny_letGo ?_)
      cases b with
      | true =>
        obtain ⟨r', hr', w'⟩ := q
        obtain ⟨m, e, _⟩ := more r' hr' w'
        cases e
      | false =>
        simp only [Bool.false_eq_true, if_false] at q ⊢
        exact wpAny_bind (wpAny_rule (wpAny_pure (hR _ _ _ ga.inv q)))
    · exact wpAny_bind (wpAny_rule (wpAny_pure (hR _ _ _ I' en)))
  | succ n ih =>
    intro s H I sl
    refine codeAny_builtin F.entry_all_loop ?_
    rw [Around.under_plainId F.plain_all_loop _]
    show wpAny _ A.in1 (pyNext (.ref a) >>= _) _ _ s
    refine wpAny_bind (gen_next (A := A.in1) hh hroom T M hgo I (fun b hb => by simp at hb) sl (fun v s1 i r j y H' _ rv ga yd _ more => ?_) fun s1 j H' _ I' en _ _ => ?_)
    · obtain ⟨b, rfl, q⟩ := yd
      obtain rfl : v = Value.bool b := rv
      refine wpAny_bind (wpAny_holding (wpAny_truthy_bool ?_))
      refine wpAny_bind (wpAny_letGo ?_)
      cases b with
      | true =>
        obtain ⟨r', hr', w'⟩ := q
        obtain ⟨m, e, sl'⟩ := more r' hr' w'
        cases e
        simp only [if_true]
        exact wpAny_pure ⟨plainId_quiet F.plain_all_loop _, ih _ _ ga.inv sl'⟩
      | false =>
        simp only [Bool.false_eq_true, if_false] at q ⊢
        exact wpAny_bind (wpAny_rule (wpAny_pure (hR _ _ _ ga.inv q)))
    · exact wpAny_bind (wpAny_rule (wpAny_pure (hR _ _ _ I' en)))
theorem any_draws (hh : A.handled = none) (hroom : A.depth < recursionLimit) (T : Turn P w K tg J fp it tn) (M : Mine Z fp []) (hgo : ∀ {h : Heap}, (∀ p ∈ Z.pn, h.get? p.1 = some p.2) → h.IsGen a g)
    (hR : ∀ b H s', Inv Z [] σw H s' → Fin b H → R (.ok (.ret (.bool b))) s') : ∀ (n : Nat) (s : Shared) (H : Hp), Inv Z [] σw H s → Sleeps Z A.in1.in1 σw fp [] tn Wt (ydB false Wt Fin) (fun _ H => Fin false H) N g n s →
      codeAny (model Z.prog Z.w) A (.builtin "any.loop" ⟨[.ref a], []⟩) R s := by
  intro n
  induction n with
  | zero =>
    intro s H I sl
    refine codeAny_builtin F.entry_any_loop ?_
    rw [Around.under_plainId F.plain_any_loop _]
    show wpAny _ A.in1 (pyNext (.ref a) >>= _) _ _ s
    refine wpAny_bind (gen_next (A := A.in1) hh hroom T M hgo I (fun b hb => by simp at hb) sl (fun v s1 i r j y H' _ rv ga yd _ more => ?_) fun s1 j H' _ I' en _ _ => ?_)
    · obtain ⟨b, rfl, q⟩ := yd
      obtain rfl : v = Value.bool b := rv
      refine wpAny_bind (wpAny_holding (wpAny_truthy_bool ?_))
      refine wpAny_bind (wpAny_letGo ?_)
      cases b with
      | false =>
        obtain ⟨r', hr', w'⟩ := q
        obtain ⟨m, e, _⟩ := more r' hr' w'
        cases e
      | true =>
        simp only [if_true] at q ⊢
        exact wpAny_bind (wpAny_rule (wpAny_pure (hR _ _ _ ga.inv q)))
    · exact wpAny_bind (wpAny_rule (wpAny_pure (hR _ _ _ I' en)))
  | succ n ih =>
    intro s H I sl
    refine codeAny_builtin F.entry_any_loop ?_
    rw [Around.under_plainId F.plain_any_loop _]
    show wpAny _ A.in1 (pyNext (.ref a) >>= _) _ _ s
    refine wpAny_bind (gen_next (A := A.in1) hh hroom T M hgo I (fun b hb => by simp at hb) sl (fun v s1 i r j y H' _ rv ga yd _ more => ?_) fun s1 j H' _ I' en _ _ => ?_)
    · obtain ⟨b, rfl, q⟩ := yd
      obtain rfl : v = Value.bool b := rv
      refine wpAny_bind (wpAny_holding (wpAny_truthy_bool ?_))
      refine wpAny_bind (wpAny_letGo ?_)
      cases b with
      | false =>
        obtain ⟨r', hr', w'⟩ := q
        obtain ⟨m, e, sl'⟩ := more r' hr' w'
        cases e
        simp only [Bool.false_eq_true, if_false]
        exact wpAny_pure ⟨plainId_quiet F.plain_any_loop _, ih _ _ ga.inv sl'⟩
      | true =>
        simp only [if_true] at q ⊢
        exact wpAny_bind (wpAny_rule (wpAny_pure (hR _ _ _ ga.inv q)))
    · exact wpAny_bind (wpAny_rule (wpAny_pure (hR _ _ _ I' en)))
end
section
variable {X : Cx}
/-- all(..), any(..): b0 goes on -/
def tAllX (b0 : Bool) (P : Addr) (q : Str) (wi : TI) (g : TG) (tt : TT) (te : TE) (vs : List Nat) : TE := fun σ H Q => wi σ H fun J H1 => TabS H1 P q ∧ ∀ H2, Grow P q H1 H2 → ∃ (N : Nat) (Wt : Nat → Nat → Nat → Hp → Prop), (∃ r, Wt 0 r 0 H2) ∧
  Turns J g tt te σ vs Wt (ydB b0 Wt fun b H => Q (.bl b) H) (fun _ H => Q (.bl b0) H) N
variable {c P : Addr} {elt iter tg : Expr} {ifs : List Expr} {p pos gpos : Pos} {scope : Scope} {own : List (Str × Nat)} {wi : TI} {g : TG} {tt : TT} {te : TE} {k : Nat}
theorem pe_allX (hr : Room (k + 1) X.A) (hg : Gl X "all") (hm : X.mg "all" = none) (hb : bootBuiltins "all" = some (.builtin "all")) (TB : GxR.TabB X.base X.mg c P) (hcode : X.env.code = .ref c) (S : GenN X.N X.env.scope scope own) (hN : X.N.Nodup) (hi : PI X tg iter wi)
    (hgt : ∀ (B : Around) (s : Shared) (H : Hp) (C : Addr) (code : Value) (fp : List Addr) (pn : List (Addr × Obj)), PG (gCx X B s H scope C code fp pn) tg g) (ht : ∀ (B : Around) (s : Shared) (H : Hp) (C : Addr) (code : Value) (fp : List Addr) (pn : List (Addr × Obj)), PTs (gCx X B s H scope C code fp pn) ifs tt)
    (he : ∀ (B : Around) (s : Shared) (H : Hp) (C : Addr) (code : Value) (fp : List Addr) (pn : List (Addr × Obj)), Room k (B.deeper (gEnv X scope C code)) → PE (gCx X B s H scope C code fp pn) elt te) (hs : ∀ v, genFold iter X.env v = pure v := by intro _; rfl)
    (hst : starEach [.GeneratorExp elt [⟨tg, iter, ifs, 0⟩] scope gpos] X.env = (false, eval (.GeneratorExp elt [⟨tg, iter, ifs, 0⟩] scope gpos) X.env) :: starEach [] X.env := by rfl) :
    PE X (.Call (.Name "all" p) [.GeneratorExp elt [⟨tg, iter, ifs, 0⟩] scope gpos] [] pos) (tAllX true P (X.env.qual ++ "<genexpr>") wi g tt te (own.map (·.2))) := by
  constructor
  intro pins s σ H Q I h
  apply wpAny_Call_Name_kw
  apply ld_blt I hg hm hb
  apply PyProof.Rows.callWith_builtin1 _ hst (by rfl)
  rw [hst]
  show wpAny _ _ (spliced ((false, eval (.GeneratorExp elt [⟨tg, iter, ifs, 0⟩] scope gpos) X.env) :: backTo pos (starEach [] X.env))) _ _ s
  apply Calls.spliced_cons
  refine gen_born (own := own) (by have := hr.dp; omega) TB hcode S hi hs I h (fun J H1 z => z.1) fun J H1 H2 s4 s5 fp it tn code a go g' z gr bn => ?_
  obtain ⟨N, Wt, ⟨r, w⟩, turn⟩ := z.2 H2 gr
  apply Calls.spliced_nil
  refine call_function_tree F.kind_all F.plain_all F.entry_all (F.args_all1 _) ?_
  unfold Builtin.«all»
  refine wpAny_bind (m := oneArg "all" _) (wpAny_pure ?_)
  refine wpAny_bind (wpAny_pyIter_gen (bn.gn _ bn.ga) ?_)
  have hrB : Room k (X.A.in1.in1.deeper (gEnv X scope s4.heap.objs.size code)) := ⟨hr.hd, by have := hr.dp; show X.A.depth + 1 + 3 * k + 5 < _; omega, by have := hr.un; show X.A.units + 1 + 1 + 3 + 16 * k + 200 < _; omega⟩
  have G := bn.gen (B := X.A.in1.in1) (ss := []) S (fun c hc => by simp at hc) (hgt _ _ _ _ _ _ _) (ht _ _ _ _ _ _ _) (he _ _ _ _ _ _ _ hrB)
  obtain ⟨ga, sl⟩ := bn.asleep (B := X.A.in1.in1) S hN hr.hd (show X.A.in1.in1.frames = some X.stack from I.ok.frames) G turn w (fun c hc => by simp at hc) ⟨rfl, bn.bare, fun _ _ _ e => e, fun c hc => by simp at hc⟩ rfl
  refine wpAny_pure ⟨plainId_quiet F.plain_all_loop _, all_draws (N := N) (g := g') hr.hd (by have := hr.dp; omega) bn.T G.M (fun e => bn.gn _ (e (a, go) (by simp))) (fun b H' s' I' q => ?_) N s5 H2 ga.inv sl⟩
  exact ⟨.bl b, H', bn.back I', rfl, q⟩
theorem pe_anyX (hr : Room (k + 1) X.A) (hg : Gl X "any") (hm : X.mg "any" = none) (TB : GxR.TabB X.base X.mg c P) (hcode : X.env.code = .ref c) (S : GenN X.N X.env.scope scope own) (hN : X.N.Nodup) (hi : PI X tg iter wi)
    (hgt : ∀ (B : Around) (s : Shared) (H : Hp) (C : Addr) (code : Value) (fp : List Addr) (pn : List (Addr × Obj)), PG (gCx X B s H scope C code fp pn) tg g) (ht : ∀ (B : Around) (s : Shared) (H : Hp) (C : Addr) (code : Value) (fp : List Addr) (pn : List (Addr × Obj)), PTs (gCx X B s H scope C code fp pn) ifs tt)
    (he : ∀ (B : Around) (s : Shared) (H : Hp) (C : Addr) (code : Value) (fp : List Addr) (pn : List (Addr × Obj)), Room k (B.deeper (gEnv X scope C code)) → PE (gCx X B s H scope C code fp pn) elt te) (hs : ∀ v, genFold iter X.env v = pure v := by intro _; rfl)
    (hst : starEach [.GeneratorExp elt [⟨tg, iter, ifs, 0⟩] scope gpos] X.env = (false, eval (.GeneratorExp elt [⟨tg, iter, ifs, 0⟩] scope gpos) X.env) :: starEach [] X.env := by rfl) :
    PE X (.Call (.Name "any" p) [.GeneratorExp elt [⟨tg, iter, ifs, 0⟩] scope gpos] [] pos) (tAllX false P (X.env.qual ++ "<genexpr>") wi g tt te (own.map (·.2))) := by
  constructor
  intro pins s σ H Q I h
  apply wpAny_Call_Name_kw
  apply ld_blt I hg hm boot_any
  apply PyProof.Rows.callWith_builtin1 _ hst (by rfl)
  rw [hst]
  show wpAny _ _ (spliced ((false, eval (.GeneratorExp elt [⟨tg, iter, ifs, 0⟩] scope gpos) X.env) :: backTo pos (starEach [] X.env))) _ _ s
  apply Calls.spliced_cons
  refine gen_born (own := own) (by have := hr.dp; omega) TB hcode S hi hs I h (fun J H1 z => z.1) fun J H1 H2 s4 s5 fp it tn code a go g' z gr bn => ?_
  obtain ⟨N, Wt, ⟨r, w⟩, turn⟩ := z.2 H2 gr
  apply Calls.spliced_nil
  refine call_function_tree F.kind_any F.plain_any F.entry_any (F.args_any1 _) ?_
  unfold Builtin.«any»
  refine wpAny_bind (m := oneArg "any" _) (wpAny_pure ?_)
  refine wpAny_bind (wpAny_pyIter_gen (bn.gn _ bn.ga) ?_)
  have hrB : Room k (X.A.in1.in1.deeper (gEnv X scope s4.heap.objs.size code)) := ⟨hr.hd, by have := hr.dp; show X.A.depth + 1 + 3 * k + 5 < _; omega, by have := hr.un; show X.A.units + 1 + 1 + 3 + 16 * k + 200 < _; omega⟩
  have G := bn.gen (B := X.A.in1.in1) (ss := []) S (fun c hc => by simp at hc) (hgt _ _ _ _ _ _ _) (ht _ _ _ _ _ _ _) (he _ _ _ _ _ _ _ hrB)
  obtain ⟨ga, sl⟩ := bn.asleep (B := X.A.in1.in1) S hN hr.hd (show X.A.in1.in1.frames = some X.stack from I.ok.frames) G turn w (fun c hc => by simp at hc) ⟨rfl, bn.bare, fun _ _ _ e => e, fun c hc => by simp at hc⟩ rfl
  refine wpAny_pure ⟨plainId_quiet F.plain_any_loop _, any_draws (N := N) (g := g') hr.hd (by have := hr.dp; omega) bn.T G.M (fun e => bn.gn _ (e (a, go) (by simp))) (fun b H' s' I' q => ?_) N s5 H2 ga.inv sl⟩
  exact ⟨.bl b, H', bn.back I', rfl, q⟩
end
end BK
set_option Elab.async false
set_option linter.all false
set_option maxRecDepth 100000
set_option maxHeartbeats 4000000
/-! KitU: sum of a generator expression whose element runs in the layer. -/
namespace BK
open PySem PySem.Spec PyProof.Rows L2 LamX
abbrev accO (i : Int) (t : Tok) (c : Nat) : Obj := { cls := .type "list", dict := none, data := .seq #[.int i t] c, slots := #[] }
theorem Kept.trans {ss : List Addr} {s s1 s2 : Shared} (a : Kept ss s s1) (b : Kept ss s1 s2) : Kept ss s s2 :=
  ⟨b.os.trans a.os, b.bare, fun c o n e => b.keep c o n (a.keep c o n e), b.there⟩
theorem sleeps_on {Z : Cx} {B : Around} {σw : L2.St} {fp ss : List Addr} {tn : Nat → Heap → Prop} {Wt : Nat → Nat → Nat → Hp → Prop} {Yd : Nat → Nat → Nat → V → Hp → Prop} {En : Nat → Hp → Prop} {N g n : Nat} {s s' : Shared}
    (h : Sleeps Z B σw fp ss tn Wt Yd En N g n s) (k : Kept ss s s') (e : s'.gens = s.gens) : Sleeps Z B σw fp ss tn Wt Yd En N g n s' := by
  obtain ⟨gs, hg, go⟩ := h
  exact ⟨gs, by rw [e]; exact hg, fun s2 k2 => go s2 (k.trans k2)⟩
section
variable {Z : Cx} {A : Around} {σw : L2.St} {fp : List Addr} {tn : Nat → Heap → Prop} {Wt : Nat → Nat → Nat → Hp → Prop} {N g : Nat} {a S : Addr} {P : Program} {w : World} {K : PySem.W.Frag} {tg : Expr} {J : It} {it : Addr} {val : Nat → Int} {Fin : Int → Hp → Prop} {R : Result → Shared → Prop}
abbrev ydS (val : Nat → Int) (Wt : Nat → Nat → Nat → Hp → Prop) : Nat → Nat → Nat → V → Hp → Prop := fun i r j y H => y = .int (val j) ∧ ∃ r', r' < r ∧ Wt (i + 1) r' (j + 1) H
/-- the accumulator is written -/
theorem acc_kept {s : Shared} {o : Obj} {f : Obj → Obj} {o' : Obj} {tk : Nat} (hS : s.heap.get? S = some o) (hb : AllBare s.gens) (hf : f o = o') (hnf : (f o).isFreed = false) (hc : ∀ v, o'.data ≠ .cell v) : Kept [S] s { s with heap := s.heap.update S f, toks := tk } where
  os := rfl
  bare := hb
  keep := fun b ob n e => (Heap.get?_update_other _ _ (fun z => n (by rw [z]; exact List.mem_singleton.mpr rfl))).trans e
  there := fun b hb' => by
    rw [List.mem_singleton.mp hb']
    exact ⟨o', by rw [← hf]; exact Heap.get?_update_self f hS hnf, hc⟩
theorem sum_draws (hh : A.handled = none) (hroom : A.depth < recursionLimit) (T : Turn P w K tg J fp it tn) (M : Mine Z fp [S]) (hgo : ∀ {h : Heap}, (∀ p ∈ Z.pn, h.get? p.1 = some p.2) → h.IsGen a g)
    (hR : ∀ j t H s', Inv Z [] σw H s' → Fin (preSum val j) H → R (.ok (.ret (.int (preSum val j) t))) s') : ∀ (n : Nat) (s : Shared) (H : Hp) (j : Nat) (tA : Tok) (c : Nat) (st : Int), (st = 0 ∨ st = 2) → n + j = N → Inv Z [] σw H s → H S = none → s.heap.get? S = some (accO (preSum val j) tA c) →
      Sleeps Z A.in1.in1 σw fp [S] tn Wt (ydS val Wt) (fun j H => Fin (preSum val j) H) N g n s → codeAny (model Z.prog Z.w) A (.builtin "sum.loop" ⟨[.ref a, .ref S, rawInt st, rawInt 0], []⟩) R s := by
  have one : ∀ (n : Nat) (ih : ∀ m, n = m + 1 → ∀ (s : Shared) (H : Hp) (j : Nat) (tA : Tok) (c : Nat) (st : Int), (st = 0 ∨ st = 2) → m + j = N → Inv Z [] σw H s → H S = none → s.heap.get? S = some (accO (preSum val j) tA c) →
      Sleeps Z A.in1.in1 σw fp [S] tn Wt (ydS val Wt) (fun j H => Fin (preSum val j) H) N g m s → codeAny (model Z.prog Z.w) A (.builtin "sum.loop" ⟨[.ref a, .ref S, rawInt st, rawInt 0], []⟩) R s)
      (s : Shared) (H : Hp) (j : Nat) (tA : Tok) (c : Nat) (st : Int), (st = 0 ∨ st = 2) → n + j = N → Inv Z [] σw H s → H S = none → s.heap.get? S = some (accO (preSum val j) tA c) →
      Sleeps Z A.in1.in1 σw fp [S] tn Wt (ydS val Wt) (fun j H => Fin (preSum val j) H) N g n s → codeAny (model Z.prog Z.w) A (.builtin "sum.loop" ⟨[.ref a, .ref S, rawInt st, rawInt 0], []⟩) R s := by
    intro n ih s H j tA c st hst hnj I hn hS sl
    refine codeAny_builtin F.entry_sum_loop ?_
    rw [Around.under_plainId F.plain_sum_loop _]
    show wpAny _ A.in1 (seqItems? (.ref S) >>= _) _ _ s
    refine wpAny_bind (wpAny_seqItems hS rfl ?_)
    show wpAny _ A.in1 (tryCatch (pyNext (.ref a)) _ >>= _) _ _ s
    have owns : ∀ {o : Obj} {H' : Hp} {s' : Shared}, H' S = none → s'.heap.get? S = some o → (∀ v, o.data ≠ .cell v) → ∀ b ∈ [S], H' b = none ∧ ∃ o, s'.heap.get? b = some o ∧ ∀ v, o.data ≠ .cell v := fun {o H' s'} h1 h2 h3 b hb => by
      rw [List.mem_singleton.mp hb]
      exact ⟨h1, o, h2, h3⟩
    refine wpAny_bind (wpAny_tryCatch (gen_next (A := A.in1) hh hroom T M hgo I (owns hn hS fun v z => by cases z) sl (fun v s1 i r j' y H' e1 rv ga yd old more => ?_) fun s1 j' H' e1 I' en hn' old => ?_))
    · obtain ⟨rfl, r', hr', w'⟩ := yd
      obtain ⟨m, rfl, sl1⟩ := more r' hr' w'
      have ej : j' = j := by omega
      subst ej
      obtain ⟨t, rfl⟩ := rv
      have hS1 : s1.heap.get? S = some (accO (preSum val j') tA c) := old S (List.mem_singleton.mpr rfl) _ hS
      have hn1 : H' S = none := (ga.ss S (List.mem_singleton.mpr rfl)).1
      -- behind the write
      have back : ∀ (c2 : Nat) (t2 : Tok) (st2 : Int) (s2 : Shared), (st2 = 0 ∨ st2 = 2) → Kept [S] s1 s2 → s2.gens = s1.gens → s2.heap.get? S = some (accO (preSum val j' + val j') t2 c2) →
          codeAny (model Z.prog Z.w) A (.builtin "sum.loop" ⟨[.ref a, .ref S, rawInt st2, rawInt 0], []⟩) R s2 := fun c2 t2 st2 s2 h1 k h2 h3 =>
        ih m rfl s2 H' (j' + 1) t2 c2 st2 h1 (by omega) (inv_sleep M ga.inv (fun b hb => (ga.ss b hb).1) k) hn1 h3 (sleeps_on sl1 k h2)
      rcases hst with rfl | rfl
      · show wpAny _ A.in1 (if (_ : Bool) = true then (mkInt (preSum val j' + val j') >>= _) else _) _ _ _
        split
        · refine wpAny_bind (wpAny_mkInt ?_)
          show wpAny _ A.in1 (updateSeq S (fun _ => #[.int (preSum val j' + val j') s1.toks]) >>= _) _ _ _
          refine wpAny_bind (wpAny_updateSeq hS1 rfl (wpAny_pure ⟨plainId_quiet F.plain_sum_loop _, ?_⟩))
          exact back _ s1.toks 0 _ (.inl rfl) (acc_kept (tk := s1.toks + 1) hS1 ga.inv.bare rfl rfl fun v z => by cases z) rfl (Heap.get?_update_self _ hS1 rfl)
        · refine wpAny_bind (wpAny_rule ?_)
          refine wpAny_bind (wpAny_attempt (wpAny_holding (wpAny_add_int ?_)))
          show wpAny _ A.in1 (updateSeq S (fun _ => #[.int (preSum val j' + val j') s1.toks]) >>= _) _ _ _
          refine wpAny_bind (wpAny_updateSeq hS1 rfl ?_)
          have hS2 := Heap.get?_update_self (Obj.mapSeq fun _ => #[Value.int (preSum val j' + val j') s1.toks]) hS1 rfl
          have k1 := acc_kept (S := S) (f := Obj.mapSeq fun _ => #[Value.int (preSum val j' + val j') s1.toks]) (tk := s1.toks + 1) hS1 ga.inv.bare rfl rfl fun v z => by cases z
          refine wpAny_bind (wpAny_letGo ?_)
          refine wpAny_bind (wpAny_updateSeq hS2 rfl (wpAny_pure ⟨plainId_quiet F.plain_sum_loop _, ?_⟩))
          exact back _ s1.toks 2 _ (.inr rfl) (k1.trans (acc_kept (s := { s1 with heap := s1.heap.update S (Obj.mapSeq fun _ => #[Value.int (preSum val j' + val j') s1.toks]), toks := s1.toks + 1 }) (tk := s1.toks + 1) hS2 ga.inv.bare rfl rfl fun v z => by cases z)) rfl (Heap.get?_update_self _ hS2 rfl)
      · show wpAny _ A.in1 ((holding [Value.int (val j') t] (binaryOp .Add (.int (preSum val j') tA) (.int (val j') t))).attempt >>= _) _ _ _
        refine wpAny_bind (wpAny_attempt (wpAny_holding (wpAny_add_int ?_)))
        show wpAny _ A.in1 (updateSeq S (fun _ => #[.int (preSum val j' + val j') s1.toks]) >>= _) _ _ _
        refine wpAny_bind (wpAny_updateSeq hS1 rfl ?_)
        have hS2 := Heap.get?_update_self (Obj.mapSeq fun _ => #[Value.int (preSum val j' + val j') s1.toks]) hS1 rfl
        have k1 := acc_kept (S := S) (f := Obj.mapSeq fun _ => #[Value.int (preSum val j' + val j') s1.toks]) (tk := s1.toks + 1) hS1 ga.inv.bare rfl rfl fun v z => by cases z
        refine wpAny_bind (wpAny_letGo ?_)
        refine wpAny_bind (wpAny_updateSeq hS2 rfl (wpAny_pure ⟨plainId_quiet F.plain_sum_loop _, ?_⟩))
        exact back _ s1.toks 2 _ (.inr rfl) (k1.trans (acc_kept (s := { s1 with heap := s1.heap.update S (Obj.mapSeq fun _ => #[Value.int (preSum val j' + val j') s1.toks]), toks := s1.toks + 1 }) (tk := s1.toks + 1) hS2 ga.inv.bare rfl rfl fun v z => by cases z)) rfl (Heap.get?_update_self _ hS2 rfl)
    · have ej : j' = j := by omega
      subst ej
      exact wpAny_pure (hR j' tA H' s1 I' en)
  intro n
  induction n with
  | zero => exact one 0 fun m e => by cases e
  | succ n ih =>
    refine one (n + 1) fun m e => ?_
    cases e
    exact ih
end
section
variable {X : Cx}
/-- sum(..) of ints: val j, the item j -/
def tSumX (P : Addr) (q : Str) (wi : TI) (g : TG) (tt : TT) (te : TE) (vs : List Nat) : TE := fun σ H Q => wi σ H fun J H1 => TabS H1 P q ∧ ∀ H2, Grow P q H1 H2 → ∃ (N : Nat) (val : Nat → Int) (Wt : Nat → Nat → Nat → Hp → Prop), (∃ r, Wt 0 r 0 H2) ∧
  Turns J g tt te σ vs Wt (ydS val Wt) (fun j H => Q (.int (preSum val j)) H) N
variable {c P : Addr} {elt iter tg : Expr} {ifs : List Expr} {p pos gpos : Pos} {scope : Scope} {own : List (Str × Nat)} {wi : TI} {g : TG} {tt : TT} {te : TE} {k : Nat}
theorem pe_sumX (hr : Room (k + 1) X.A) (hg : Gl X "sum") (hm : X.mg "sum" = none) (hb : bootBuiltins "sum" = some (.builtin "sum")) (TB : GxR.TabB X.base X.mg c P) (hcode : X.env.code = .ref c) (S : GenN X.N X.env.scope scope own) (hN : X.N.Nodup) (hi : PI X tg iter wi)
    (hgt : ∀ (B : Around) (s : Shared) (H : Hp) (C : Addr) (code : Value) (fp : List Addr) (pn : List (Addr × Obj)), PG (gCx X B s H scope C code fp pn) tg g) (ht : ∀ (B : Around) (s : Shared) (H : Hp) (C : Addr) (code : Value) (fp : List Addr) (pn : List (Addr × Obj)), PTs (gCx X B s H scope C code fp pn) ifs tt)
    (he : ∀ (B : Around) (s : Shared) (H : Hp) (C : Addr) (code : Value) (fp : List Addr) (pn : List (Addr × Obj)), Room k (B.deeper (gEnv X scope C code)) → PE (gCx X B s H scope C code fp pn) elt te) (hs : ∀ v, genFold iter X.env v = pure v := by intro _; rfl)
    (hst : starEach [.GeneratorExp elt [⟨tg, iter, ifs, 0⟩] scope gpos] X.env = (false, eval (.GeneratorExp elt [⟨tg, iter, ifs, 0⟩] scope gpos) X.env) :: starEach [] X.env := by rfl) :
    PE X (.Call (.Name "sum" p) [.GeneratorExp elt [⟨tg, iter, ifs, 0⟩] scope gpos] [] pos) (tSumX P (X.env.qual ++ "<genexpr>") wi g tt te (own.map (·.2))) := by
  constructor
  intro pins s σ H Q I h
  apply wpAny_Call_Name_kw
  apply ld_blt I hg hm hb
  apply PyProof.Rows.callWith_builtin1 _ hst (by rfl)
  rw [hst]
  show wpAny _ _ (spliced ((false, eval (.GeneratorExp elt [⟨tg, iter, ifs, 0⟩] scope gpos) X.env) :: backTo pos (starEach [] X.env))) _ _ s
  apply Calls.spliced_cons
  refine gen_born (own := own) (by have := hr.dp; omega) TB hcode S hi hs I h (fun J H1 z => z.1) fun J H1 H2 s4 s5 fp it tn code a go g' z gr bn => ?_
  obtain ⟨N, val, Wt, ⟨r, w⟩, turn⟩ := z.2 H2 gr
  apply Calls.spliced_nil
  have hrB : Room k (X.A.in1.in1.deeper (gEnv X scope s4.heap.objs.size code)) := ⟨hr.hd, by have := hr.dp; show X.A.depth + 1 + 3 * k + 5 < _; omega, by have := hr.un; show X.A.units + 1 + 1 + 3 + 16 * k + 200 < _; omega⟩
  have hss : ∀ d ∈ [s5.heap.objs.size], s5.heap.objs.size ≤ d := fun d hd => by rw [List.mem_singleton.mp hd]; exact Nat.le_refl _
  have G := bn.gen (B := X.A.in1.in1) S hss (hgt _ _ _ _ _ _ _) (ht _ _ _ _ _ _ _) (he _ _ _ _ _ _ _ hrB)
  refine call_function_tree F.kind_sum F.plain_sum F.entry_sum (F.args_sum1 _) ?_
  unfold Builtin.«sum»
  simp only [List.length_cons, List.length_nil]
  rw [if_neg (by decide)]
  refine wpAny_bind (wpAny_of_eq (show Builtin.Builtins.bindParams "sum" ["start"] 0 { } = pure [none] from rfl) ?_)
  refine wpAny_bind (wpAny_pyIter_gen (bn.gn _ bn.ga) ?_)
  refine wpAny_bind (wpAny_mkInt ?_)
  refine wpAny_bind (wpAny_pure ?_)
  simp only [List.forIn_cons, List.forIn_nil]
  refine wpAny_bind (wpAny_bind (wpAny_bind (wpAny_isInstance (T := "int") (b := false) (typeIs_int _ _ _) PySem.sub_int_str ?_)))
  simp only [Bool.false_eq_true, if_false]
  refine wpAny_pure (wpAny_bind (wpAny_bind (wpAny_isInstance (T := "int") (b := false) (typeIs_int _ _ _) PySem.sub_int_bytes ?_)))
  simp only [Bool.false_eq_true, if_false]
  refine wpAny_pure (wpAny_bind (wpAny_bind (wpAny_isInstance (T := "int") (b := false) (typeIs_int _ _ _) PySem.sub_int_bytearray ?_)))
  simp only [Bool.false_eq_true, if_false]
  refine wpAny_pure (wpAny_pure ?_)
  refine wpAny_bind (wpAny_newObj_type ?_)
  have kz : ∀ tk : Nat, Kept [s5.heap.objs.size] s5 { s5 with toks := tk, heap := s5.heap.push { cls := .type "list", data := .seq #[.int 0 s5.toks] } } := fun tk =>
    ⟨rfl, bn.bare, fun b o _ e => Heap.get?_push_of_some _ e, fun b hb => by
      rw [List.mem_singleton.mp hb]
      exact ⟨_, Heap.get?_push_size _ rfl, fun v z => by cases z⟩⟩
  obtain ⟨ga, sl⟩ := bn.asleep (B := X.A.in1.in1) S hN hr.hd (show X.A.in1.in1.frames = some X.stack from I.ok.frames) G turn w hss (kz (s5.toks + 1)) rfl
  refine wpAny_pure ⟨plainId_quiet F.plain_sum_loop _, sum_draws (val := val) (N := N) (g := g') (Fin := fun i H => Q (.int i) H) (S := s5.heap.objs.size) hr.hd (by have := hr.dp; omega) bn.T G.M (fun e => bn.gn _ (e (a, go) (by simp))) (fun j t H' s' I' q => ?_) N _ H2 0 s5.toks 0 0 (.inl rfl) (by omega) ga.inv (ga.ss _ (List.mem_singleton.mpr rfl)).1 (Heap.get?_push_size _ rfl) sl⟩
  exact ⟨.int _, H', bn.back I', ⟨t, rfl⟩, q⟩
end
end BK
set_option Elab.async false
set_option linter.all false
set_option maxRecDepth 100000
set_option maxHeartbeats 4000000
/-! KitV: the forms one uses: over n turns; over a tuple. -/
namespace BK
open PySem PySem.Spec PyProof.Rows L2 LamX
section
variable {J : It} {g : TG} {te : TE} {σ : L2.St} {vs : List Nat} {H2 : Hp}
theorem all_n {b0 : Bool} {Fin : Bool → Hp → Prop} (n : Nat) (Pv : Nat → Hp → Prop) (h0 : Pv 0 H2) (hgo : ∀ i H, i < n → Pv i H → J.go i H) (hst : ∀ H, Pv n H → J.stop n H)
    (hs : ∀ i H x H' (Po : V → Hp → Prop), i < n → Pv i H → J.yld i H x H' → (∀ b H4, (if b = b0 then Pv (i + 1) H4 else Fin b H4) → Po (.bl b) H4) → g x (wipe σ vs) H' fun σ2 H2 => wipe σ2 vs = wipe σ vs ∧ te σ2 H2 Po)
    (hd : ∀ H, Pv n H → Fin b0 H) : ∃ (N : Nat) (Wt : Nat → Nat → Nat → Hp → Prop), (∃ r, Wt 0 r 0 H2) ∧ Turns J g tYes te σ vs Wt (ydB b0 Wt Fin) (fun _ H => Fin b0 H) N := by
  refine ⟨n, fun i r j H => r = n - i ∧ j = i ∧ i ≤ n ∧ Pv i H, ⟨n, by simp, rfl, Nat.zero_le _, h0⟩, ?_⟩
  rintro i r j H ⟨rfl, rfl, hi, p⟩
  by_cases hlt : j < n
  · refine .inr ⟨hgo j H hlt p, fun x H' y => ?_⟩
    refine hs j H x H' (fun y H4 => j < n ∧ ydB b0 (fun i r j H => r = n - i ∧ j = i ∧ i ≤ n ∧ Pv i H) Fin j (n - j) j y H4) hlt p y fun b H4 q => ⟨hlt, b, rfl, ?_⟩
    by_cases hb : b = b0
    · rw [if_pos hb] at q ⊢
      exact ⟨n - (j + 1), by omega, rfl, rfl, hlt, q⟩
    · rw [if_neg hb] at q ⊢
      exact q
  · have e : j = n := by omega
    subst e
    exact .inl ⟨hst H p, hd H p⟩
theorem sum_n {Fin : Int → Hp → Prop} (n : Nat) (val : Nat → Int) (Pv : Nat → Hp → Prop) (h0 : Pv 0 H2) (hgo : ∀ i H, i < n → Pv i H → J.go i H) (hst : ∀ H, Pv n H → J.stop n H)
    (hs : ∀ i H x H' (Po : V → Hp → Prop), i < n → Pv i H → J.yld i H x H' → (∀ H4, Pv (i + 1) H4 → Po (.int (val i)) H4) → g x (wipe σ vs) H' fun σ2 H2 => wipe σ2 vs = wipe σ vs ∧ te σ2 H2 Po)
    (hd : ∀ H, Pv n H → Fin (preSum val n) H) : ∃ (N : Nat) (val : Nat → Int) (Wt : Nat → Nat → Nat → Hp → Prop), (∃ r, Wt 0 r 0 H2) ∧ Turns J g tYes te σ vs Wt (ydS val Wt) (fun j H => Fin (preSum val j) H) N := by
  refine ⟨n, val, fun i r j H => r = n - i ∧ j = i ∧ i ≤ n ∧ Pv i H, ⟨n, by simp, rfl, Nat.zero_le _, h0⟩, ?_⟩
  rintro i r j H ⟨rfl, rfl, hi, p⟩
  by_cases hlt : j < n
  · refine .inr ⟨hgo j H hlt p, fun x H' y => ?_⟩
    exact hs j H x H' (fun y H4 => j < n ∧ ydS val (fun i r j H => r = n - i ∧ j = i ∧ i ≤ n ∧ Pv i H) j (n - j) j y H4) hlt p y fun H4 q => ⟨hlt, rfl, n - (j + 1), by omega, rfl, rfl, hlt, q⟩
  · have e : j = n := by omega
    subst e
    exact .inl ⟨hst H p, hd H p⟩
end
section
variable {K : PySem.W.Frag} {a : Addr} {xs : List V} {g : TG} {te : TE} {σ : L2.St} {vs : List Nat} {H2 : Hp}
theorem all_tup {b0 : Bool} {Fin : Bool → Hp → Prop} (Pv : Nat → Hp → Prop) (h0 : Pv 0 H2) (hl : ∀ i H, i ≤ xs.length → Pv i H → SqT K H a xs)
    (hs : ∀ i x H (Po : V → Hp → Prop), xs[i]? = some x → Pv i H → (∀ b H4, (if b = b0 then Pv (i + 1) H4 else Fin b H4) → Po (.bl b) H4) → g x (wipe σ vs) H fun σ2 H2 => wipe σ2 vs = wipe σ vs ∧ te σ2 H2 Po)
    (hd : ∀ H, Pv xs.length H → Fin b0 H) : ∃ (N : Nat) (Wt : Nat → Nat → Nat → Hp → Prop), (∃ r, Wt 0 r 0 H2) ∧ Turns (Itt K a) g tYes te σ vs Wt (ydB b0 Wt Fin) (fun _ H => Fin b0 H) N := by
  refine all_n xs.length Pv h0 (fun i H hi p => ⟨xs, xs[i], hl i H (Nat.le_of_lt hi) p, by simp [hi]⟩) (fun H p => ⟨xs, hl _ H (Nat.le_refl _) p, Nat.le_refl _⟩) (fun i H x H' Po hi p y k => ?_) hd
  obtain ⟨e, y⟩ := y
  subst e
  exact hs i x _ Po (y xs (hl i _ (Nat.le_of_lt hi) p)) p k
theorem sum_tup {Fin : Int → Hp → Prop} (val : Nat → Int) (Pv : Nat → Hp → Prop) (h0 : Pv 0 H2) (hl : ∀ i H, i ≤ xs.length → Pv i H → SqT K H a xs)
    (hs : ∀ i x H (Po : V → Hp → Prop), xs[i]? = some x → Pv i H → (∀ H4, Pv (i + 1) H4 → Po (.int (val i)) H4) → g x (wipe σ vs) H fun σ2 H2 => wipe σ2 vs = wipe σ vs ∧ te σ2 H2 Po)
    (hd : ∀ H, Pv xs.length H → Fin (preSum val xs.length) H) : ∃ (N : Nat) (val : Nat → Int) (Wt : Nat → Nat → Nat → Hp → Prop), (∃ r, Wt 0 r 0 H2) ∧ Turns (Itt K a) g tYes te σ vs Wt (ydS val Wt) (fun j H => Fin (preSum val j) H) N := by
  refine sum_n xs.length val Pv h0 (fun i H hi p => ⟨xs, xs[i], hl i H (Nat.le_of_lt hi) p, by simp [hi]⟩) (fun H p => ⟨xs, hl _ H (Nat.le_refl _) p, Nat.le_refl _⟩) (fun i H x H' Po hi p y k => ?_) hd
  obtain ⟨e, y⟩ := y
  subst e
  exact hs i x _ Po (y xs (hl i _ (Nat.le_of_lt hi) p)) p k
end
end BK
set_option Elab.async false
set_option linter.all false
set_option maxRecDepth 100000
set_option maxHeartbeats 4000000
/-! KM: sums over choices: the mathematics. -/
namespace BK
open PySem PySem.Spec PyProof.Rows L2
/-! ### least and greatest -/
def mnL : List Int → Int
  | [] => 0
  | w :: ws => ws.foldl (fun a x => if x < a then x else a) w
def mxL : List Int → Int
  | [] => 0
  | w :: ws => ws.foldl (fun a x => if x > a then x else a) w
theorem foldmn : ∀ (ws : List Int) (w : Int), (ws.foldl (fun a x => if x < a then x else a) w = w ∨ ws.foldl (fun a x => if x < a then x else a) w ∈ ws) ∧ ws.foldl (fun a x => if x < a then x else a) w ≤ w ∧ ∀ x ∈ ws, ws.foldl (fun a x => if x < a then x else a) w ≤ x
  | [], w => ⟨.inl rfl, Int.le_refl _, fun x hx => by cases hx⟩
  | y :: ws, w => by
    obtain ⟨h1, h2, h3⟩ := foldmn ws (if y < w then y else w)
    simp only [List.foldl_cons]
    refine ⟨?_, ?_, fun x hx => ?_⟩
    · rcases h1 with h1 | h1
      · rw [h1]
        split
        · exact .inr List.mem_cons_self
        · exact .inl rfl
      · exact .inr (List.mem_cons_of_mem _ h1)
    · refine Int.le_trans h2 ?_
      split <;> omega
    · rcases List.mem_cons.mp hx with e | e
      · subst e
        refine Int.le_trans h2 ?_
        split <;> omega
      · exact h3 x e
theorem foldmx : ∀ (ws : List Int) (w : Int), (ws.foldl (fun a x => if x > a then x else a) w = w ∨ ws.foldl (fun a x => if x > a then x else a) w ∈ ws) ∧ w ≤ ws.foldl (fun a x => if x > a then x else a) w ∧ ∀ x ∈ ws, x ≤ ws.foldl (fun a x => if x > a then x else a) w
  | [], w => ⟨.inl rfl, Int.le_refl _, fun x hx => by cases hx⟩
  | y :: ws, w => by
    obtain ⟨h1, h2, h3⟩ := foldmx ws (if y > w then y else w)
    simp only [List.foldl_cons]
    refine ⟨?_, ?_, fun x hx => ?_⟩
    · rcases h1 with h1 | h1
      · rw [h1]
        split
        · exact .inr List.mem_cons_self
        · exact .inl rfl
      · exact .inr (List.mem_cons_of_mem _ h1)
    · refine Int.le_trans ?_ h2
      split <;> omega
    · rcases List.mem_cons.mp hx with e | e
      · subst e
        refine Int.le_trans ?_ h2
        split <;> omega
      · exact h3 x e
theorem mnL_mem {ws : List Int} (h : ws ≠ []) : mnL ws ∈ ws := by
  cases ws with
  | nil => exact absurd rfl h
  | cons w ws =>
    rcases (foldmn ws w).1 with e | e
    · simp only [mnL]
      rw [e]
      exact List.mem_cons_self
    · exact List.mem_cons_of_mem _ e
theorem mnL_le {ws : List Int} {x : Int} (h : x ∈ ws) : mnL ws ≤ x := by
  cases ws with
  | nil => cases h
  | cons w ws =>
    rcases List.mem_cons.mp h with e | e
    · subst e
      exact (foldmn ws x).2.1
    · exact (foldmn ws w).2.2 x e
theorem mxL_mem {ws : List Int} (h : ws ≠ []) : mxL ws ∈ ws := by
  cases ws with
  | nil => exact absurd rfl h
  | cons w ws =>
    rcases (foldmx ws w).1 with e | e
    · simp only [mxL]
      rw [e]
      exact List.mem_cons_self
    · exact List.mem_cons_of_mem _ e
theorem le_mxL {ws : List Int} {x : Int} (h : x ∈ ws) : x ≤ mxL ws := by
  cases ws with
  | nil => cases h
  | cons w ws =>
    rcases List.mem_cons.mp h with e | e
    · subst e
      exact (foldmx ws x).2.1
    · exact (foldmx ws w).2.2 x e
theorem mnL_eq {ws : List Int} {m : Int} (h : m ∈ ws) (l : ∀ x ∈ ws, m ≤ x) : m = mnL ws := by
  have ne : ws ≠ [] := fun z => by rw [z] at h; cases h
  have h1 := mnL_le h
  have h2 := l _ (mnL_mem ne)
  omega
theorem mxL_eq {ws : List Int} {m : Int} (h : m ∈ ws) (l : ∀ x ∈ ws, x ≤ m) : m = mxL ws := by
  have ne : ws ≠ [] := fun z => by rw [z] at h; cases h
  have h1 := le_mxL h
  have h2 := l _ (mxL_mem ne)
  omega
theorem mn_le_mx {ws : List Int} : mnL ws ≤ mxL ws := by
  cases ws with
  | nil => exact Int.le_refl _
  | cons w ws => exact Int.le_trans (mnL_le List.mem_cons_self) (le_mxL List.mem_cons_self)
theorem mnL_sub {ws : List Int} (h : ws ≠ []) (d : Int) : mnL (ws.map (· - d)) = mnL ws - d := by
  refine (mnL_eq ?_ fun x hx => ?_).symm
  · exact List.mem_map.mpr ⟨_, mnL_mem h, rfl⟩
  · obtain ⟨y, hy, rfl⟩ := List.mem_map.mp hx
    have := mnL_le hy
    omega
theorem mxL_sub {ws : List Int} (h : ws ≠ []) (d : Int) : mxL (ws.map (· - d)) = mxL ws - d := by
  refine (mxL_eq ?_ fun x hx => ?_).symm
  · exact List.mem_map.mpr ⟨_, mxL_mem h, rfl⟩
  · obtain ⟨y, hy, rfl⟩ := List.mem_map.mp hx
    have := le_mxL hy
    omega
/-! ### terms, rows -/
abbrev Trm := Nat × List Int
/-- ascending choices from k on, as many weights as the choice has values -/
def TmOk (ss : List Nat) : Nat → List Trm → Prop
  | _, [] => True
  | k, t :: r => k ≤ t.1 ∧ (∃ s, ss[t.1]? = some s ∧ t.2.length = s ∧ 1 ≤ s) ∧ TmOk ss (t.1 + 1) r
def RowOk (ss r : List Nat) : Prop := r.length = ss.length ∧ ∀ (i v : Nat), r[i]? = some v → ∃ s : Nat, ss[i]? = some s ∧ v < s
theorem TmOk.mono {ss : List Nat} : ∀ {ts : List Trm} {k j : Nat}, j ≤ k → TmOk ss k ts → TmOk ss j ts
  | [], _, _, _, _ => True.intro
  | _ :: _, _, _, h, ⟨a, b, c⟩ => ⟨Nat.le_trans h a, b, c⟩
theorem TmOk.lt {ss : List Nat} : ∀ {ts : List Trm} {k : Nat} {t : Trm}, TmOk ss k ts → t ∈ ts → k ≤ t.1 ∧ ∃ s, ss[t.1]? = some s ∧ t.2.length = s ∧ 1 ≤ s
  | u :: r, k, t, ⟨a, b, c⟩, h => by
    rcases List.mem_cons.mp h with e | e
    · subst e
      exact ⟨a, b⟩
    · obtain ⟨p, q⟩ := TmOk.lt c e
      exact ⟨by omega, q⟩
/-- what a row's values weigh -/
def wt (r : List Nat) (ts : List Trm) : Int := (ts.map fun t => t.2.getD (r.getD t.1 0) 0).sum
theorem wt_cons (r : List Nat) (t : Trm) (ts : List Trm) : wt r (t :: ts) = t.2.getD (r.getD t.1 0) 0 + wt r ts := by simp [wt]
theorem row_at {ss r : List Nat} {c s : Nat} (h : RowOk ss r) (hs : ss[c]? = some s) : ∃ v, r[c]? = some v ∧ r.getD c 0 = v ∧ v < s := by
  have lc := (List.getElem?_eq_some_iff.mp hs).1
  have lr : c < r.length := by rw [h.1]; exact lc
  have e : r[c]? = some r[c] := List.getElem?_eq_getElem lr
  obtain ⟨s', e1, lt⟩ := h.2 c _ e
  rw [hs] at e1
  cases e1
  exact ⟨r[c], e, by rw [List.getD_eq_getElem?_getD, e]; rfl, lt⟩
/-! ### the form -/
def mnS (ts : List Trm) : Int := (ts.map fun t => mnL t.2).sum
def keep1 (t : Trm) : Option Trm := if mxL t.2 > mnL t.2 then some (t.1, t.2.map (· - mnL t.2)) else none
def formK (ts : List Trm) : List Trm := ts.filterMap keep1
def formOf (ts : List Trm) (b : Int) : List Trm × Int := if b - mnS ts > 0 then (formK ts, b - mnS ts) else ([], 0)
structure SumOk (ss : List Nat) (s : List Trm × Int) : Prop where
  tm : TmOk ss 0 s.1
  pos : 0 ≤ s.2
  zero : s.2 = 0 → s.1 = []
  all : ∀ t ∈ s.1, mnL t.2 = 0 ∧ 0 < mxL t.2
theorem ne_of_len {ws : List Int} {s : Nat} (h : ws.length = s) (l : 1 ≤ s) : ws ≠ [] := fun z => by
  rw [z] at h
  simp at h
  omega
theorem formK_ok {ss : List Nat} : ∀ {ts : List Trm} {k : Nat}, TmOk ss k ts → TmOk ss k (formK ts) ∧ ∀ t ∈ formK ts, mnL t.2 = 0 ∧ 0 < mxL t.2
  | [], _, _ => ⟨True.intro, fun t h => by cases h⟩
  | t :: r, k, ⟨a, ⟨s, b1, b2, b3⟩, c⟩ => by
    obtain ⟨h1, h2⟩ := formK_ok c
    have ne := ne_of_len b2 b3
    unfold formK
    rw [List.filterMap_cons]
    unfold keep1
    by_cases g : mxL t.2 > mnL t.2
    · rw [if_pos g]
      refine ⟨⟨a, ⟨s, b1, by simp [b2], b3⟩, h1⟩, fun u hu => ?_⟩
      rcases List.mem_cons.mp hu with e | e
      · subst e
        show mnL (t.2.map _) = 0 ∧ 0 < mxL (t.2.map _)
        rw [mnL_sub ne, mxL_sub ne]
        omega
      · exact h2 u e
    · rw [if_neg g]
      exact ⟨h1.mono (by omega), h2⟩
theorem form_ok {ss : List Nat} {ts : List Trm} (b : Int) (h : TmOk ss 0 ts) : SumOk ss (formOf ts b) := by
  unfold formOf
  obtain ⟨h1, h2⟩ := formK_ok h
  split
  · exact ⟨h1, by show 0 ≤ b - mnS ts; omega, fun z => by have : b - mnS ts = 0 := z; omega, h2⟩
  · exact ⟨True.intro, Int.le_refl _, fun _ => rfl, fun t ht => by cases ht⟩
theorem wt_form {ss r : List Nat} (hr : RowOk ss r) : ∀ {ts : List Trm} {k : Nat}, TmOk ss k ts → wt r (formK ts) = wt r ts - mnS ts
  | [], _, _ => rfl
  | t :: ts, k, ⟨a, ⟨s, b1, b2, b3⟩, c⟩ => by
    have ih := wt_form hr c
    obtain ⟨v, e1, e2, lt⟩ := row_at hr b1
    have lv : v < t.2.length := by omega
    have ew : t.2.getD v 0 = t.2[v] := by rw [List.getD_eq_getElem?_getD, List.getElem?_eq_getElem lv]; rfl
    have m1 := mnL_le (List.getElem_mem lv)
    have m2 := le_mxL (List.getElem_mem lv)
    have es : mnS (t :: ts) = mnL t.2 + mnS ts := by simp [mnS]
    have ef : formK (t :: ts) = (match keep1 t with | some u => u :: formK ts | none => formK ts) := by
      unfold formK
      rw [List.filterMap_cons]
      cases keep1 t <;> rfl
    rw [ef, wt_cons, es, e2, ew]
    unfold keep1
    by_cases g : mxL t.2 > mnL t.2
    · rw [if_pos g]
      show wt r ((t.1, t.2.map (· - mnL t.2)) :: formK ts) = _
      rw [wt_cons, ih]
      show (t.2.map (· - mnL t.2)).getD (r.getD t.1 0) 0 + _ = _
      rw [e2, List.getD_eq_getElem?_getD, List.getElem?_map, List.getElem?_eq_getElem lv]
      show t.2[v] - mnL t.2 + _ = _
      omega
    · rw [if_neg g]
      show wt r (formK ts) = _
      rw [ih]
      omega
theorem wt_ge {ss r : List Nat} (hr : RowOk ss r) : ∀ {ts : List Trm} {k : Nat}, TmOk ss k ts → mnS ts ≤ wt r ts
  | [], _, _ => Int.le_refl _
  | t :: ts, k, ⟨a, ⟨s, b1, b2, b3⟩, c⟩ => by
    have ih := wt_ge hr c
    obtain ⟨v, e1, e2, lt⟩ := row_at hr b1
    have lv : v < t.2.length := by omega
    have ew : t.2.getD v 0 = t.2[v] := by rw [List.getD_eq_getElem?_getD, List.getElem?_eq_getElem lv]; rfl
    have m1 := mnL_le (List.getElem_mem lv)
    have es : mnS (t :: ts) = mnL t.2 + mnS ts := by simp [mnS]
    rw [wt_cons, es, e2, ew]
    omega
theorem wt_nil (r : List Nat) : wt r [] = 0 := rfl
/-- a sum in its form stays -/
theorem formK_self : ∀ {ts : List Trm}, (∀ t ∈ ts, mnL t.2 = 0 ∧ 0 < mxL t.2) → formK ts = ts ∧ mnS ts = 0
  | [], _ => ⟨rfl, rfl⟩
  | t :: ts, h => by
    obtain ⟨h1, h2⟩ := formK_self fun u hu => h u (List.mem_cons_of_mem _ hu)
    obtain ⟨a, b⟩ := h t List.mem_cons_self
    have e : keep1 t = some t := by
      unfold keep1
      rw [if_pos (by omega), a]
      have : (fun x : Int => x - 0) = id := by funext x; simp
      rw [this, List.map_id]
    refine ⟨?_, by simp only [mnS, List.map_cons, List.sum_cons] at h2 ⊢; omega⟩
    unfold formK
    rw [List.filterMap_cons, e]
    exact congrArg (t :: ·) h1
theorem form_self {ss : List Nat} {s : List Trm × Int} (h : SumOk ss s) : formOf s.1 s.2 = s := by
  obtain ⟨h1, h2⟩ := formK_self h.all
  unfold formOf
  rw [h1, h2]
  have := h.pos
  by_cases z : s.2 = 0
  · rw [if_neg (by omega)]
    have := h.zero z
    obtain ⟨a, b⟩ := s
    simp only at this z ⊢
    rw [this, z]
  · rw [if_pos (by omega)]
    obtain ⟨a, b⟩ := s
    simp
/-- each choice moved by a number -/
def mvd : List Trm → List Int → List Trm
  | t :: ts, d :: ds => (t.1, t.2.map (· + d)) :: mvd ts ds
  | _, _ => []
theorem map_add_sub (ws : List Int) (d : Int) : ws.map (· + d) = ws.map (· - (-d)) := by
  refine List.map_congr_left fun x _ => ?_
  omega
theorem mvd_ok {ss : List Nat} : ∀ {ts : List Trm} {ds : List Int} {k : Nat}, ds.length = ts.length → TmOk ss k ts → TmOk ss k (mvd ts ds)
  | [], ds, _, _, _ => by cases ds <;> exact True.intro
  | t :: ts, [], _, h, _ => by simp at h
  | t :: ts, d :: ds, k, h, ⟨a, ⟨s, b1, b2, b3⟩, c⟩ => ⟨a, ⟨s, b1, by simp [b2], b3⟩, mvd_ok (by simpa using h) c⟩
theorem mvd_form {ss : List Nat} : ∀ {ts : List Trm} {ds : List Int} {k : Nat}, ds.length = ts.length → TmOk ss k ts → formK (mvd ts ds) = formK ts ∧ mnS (mvd ts ds) = mnS ts + ds.sum
  | [], [], _, _, _ => ⟨rfl, rfl⟩
  | [], _ :: _, _, h, _ => by simp at h
  | t :: ts, [], _, h, _ => by simp at h
  | t :: ts, d :: ds, k, h, ⟨a, ⟨s, b1, b2, b3⟩, c⟩ => by
    obtain ⟨h1, h2⟩ := mvd_form (ds := ds) (by simpa using h) c
    have ne := ne_of_len b2 b3
    have e1 : mnL (t.2.map (· + d)) = mnL t.2 + d := by rw [map_add_sub, mnL_sub ne]; omega
    have e2 : mxL (t.2.map (· + d)) = mxL t.2 + d := by rw [map_add_sub, mxL_sub ne]; omega
    have ek : keep1 (t.1, t.2.map (· + d)) = keep1 t := by
      unfold keep1
      show (if mxL (t.2.map (· + d)) > mnL (t.2.map (· + d)) then some (t.1, (t.2.map (· + d)).map (· - mnL (t.2.map (· + d)))) else none) = _
      rw [e1, e2]
      by_cases g : mxL t.2 > mnL t.2
      · rw [if_pos g, if_pos (by omega), List.map_map]
        refine congrArg (fun l => some (t.1, l)) (List.map_congr_left fun x _ => ?_)
        show x + d - (mnL t.2 + d) = _
        omega
      · rw [if_neg g, if_neg (by omega)]
    constructor
    · show formK ((t.1, t.2.map (· + d)) :: mvd ts ds) = _
      unfold formK at h1 ⊢
      rw [List.filterMap_cons, List.filterMap_cons, ek]
      cases keep1 t with
      | none => exact h1
      | some u => exact congrArg (u :: ·) h1
    · show mnS ((t.1, t.2.map (· + d)) :: mvd ts ds) = _
      simp only [mnS, List.map_cons, List.sum_cons] at h2 ⊢
      rw [e1, h2]
      omega
theorem form_moved {ss : List Nat} {ts : List Trm} {ds : List Int} (b : Int) (h : ds.length = ts.length) (ok : TmOk ss 0 ts) : formOf (mvd ts ds) (b + ds.sum) = formOf ts b := by
  obtain ⟨h1, h2⟩ := mvd_form h ok
  unfold formOf
  rw [h1, h2]
  have e : b + ds.sum - (mnS ts + ds.sum) = b - mnS ts := by omega
  rw [e]
/-! ### rows -/
def rowsOf (ss : List Nat) : List (List Nat) := ss.foldl (fun acc s => acc.flatMap fun r => (List.range s).map fun v => r ++ [v]) [[]]
theorem rowsOf_snoc (ss : List Nat) (s : Nat) : rowsOf (ss ++ [s]) = (rowsOf ss).flatMap fun r => (List.range s).map fun v => r ++ [v] := by
  unfold rowsOf
  rw [List.foldl_append]
  rfl
theorem take_snoc {α : Type} {l : List α} {k : Nat} {x : α} (h : l[k]? = some x) : l.take (k + 1) = l.take k ++ [x] := by
  rw [List.take_add_one, h]
  rfl
theorem mem_rows (ss : List Nat) : ∀ (n : Nat) (r : List Nat), n ≤ ss.length → (r ∈ rowsOf (ss.take n) ↔ RowOk (ss.take n) r) := by
  intro n
  induction n with
  | zero =>
    intro r _
    simp only [List.take_zero]
    constructor
    · intro h
      have : r = [] := by simpa [rowsOf] using h
      subst this
      exact ⟨rfl, fun i v e => by simp at e⟩
    · intro h
      have : r = [] := List.eq_nil_of_length_eq_zero h.1
      subst this
      simp [rowsOf]
  | succ n ih =>
    intro r hn
    have hs : ss[n]? = some ss[n] := List.getElem?_eq_getElem hn
    have ln : (ss.take n).length = n := by simp; omega
    rw [take_snoc hs, rowsOf_snoc, List.mem_flatMap]
    constructor
    · rintro ⟨r', h1, h2⟩
      obtain ⟨v, h3, rfl⟩ := List.mem_map.mp h2
      have h4 := (ih r' (by omega)).mp h1
      refine ⟨by simp [h4.1]; omega, fun i v' e => ?_⟩
      by_cases hi : i < r'.length
      · rw [List.getElem?_append_left hi] at e
        obtain ⟨s, e1, e2⟩ := h4.2 i v' e
        have : i < (ss.take n).length := by rw [← h4.1]; exact hi
        exact ⟨s, by rw [List.getElem?_append_left this]; exact e1, e2⟩
      · have ei : i = r'.length := by
          have := (List.getElem?_eq_some_iff.mp e).1
          simp at this
          omega
        subst ei
        rw [List.getElem?_append_right (Nat.le_refl _)] at e
        simp at e
        subst e
        refine ⟨ss[n], ?_, List.mem_range.mp h3⟩
        rw [h4.1, List.getElem?_append_right (Nat.le_refl _)]
        simp
    · intro h
      have lr : r.length = n + 1 := by
        have := h.1
        simp at this
        omega
      have ne : r ≠ [] := fun z => by rw [z] at lr; simp at lr
      have er : r = r.take n ++ [r[n]'(by omega)] := by
        have := take_snoc (l := r) (k := n) (x := r[n]'(by omega)) (List.getElem?_eq_getElem (by omega))
        rw [← this, List.take_of_length_le (by omega)]
      refine ⟨r.take n, (ih _ (by omega)).mpr ⟨by simp; omega, fun i v e => ?_⟩, ?_⟩
      · have hi := (List.getElem?_eq_some_iff.mp e).1
        have hi : i < n := by simp at hi; omega
        rw [List.getElem?_take_of_lt hi] at e
        obtain ⟨s, e1, e2⟩ := h.2 i v e
        rw [List.getElem?_append_left (by omega)] at e1
        exact ⟨s, e1, e2⟩
      · obtain ⟨s, e1, e2⟩ := h.2 n (r[n]'(by omega)) (List.getElem?_eq_getElem (by omega))
        rw [List.getElem?_append_right (by omega), ln] at e1
        simp at e1
        subst e1
        exact List.mem_map.mpr ⟨r[n]'(by omega), List.mem_range.mpr e2, er.symm⟩
theorem mem_rowsOf {ss r : List Nat} : r ∈ rowsOf ss ↔ RowOk ss r := by
  have := mem_rows ss ss.length r (Nat.le_refl _)
  rwa [List.take_length] at this
theorem rows_len {ss : List Nat} (h : ∀ s ∈ ss, s ≤ 4) : ∀ n, n ≤ ss.length → (rowsOf (ss.take n)).length ≤ 4 ^ n := by
  intro n
  induction n with
  | zero => intro _; simp [rowsOf]
  | succ n ih =>
    intro hn
    have hs : ss[n]? = some ss[n] := List.getElem?_eq_getElem hn
    have i1 := ih (by omega)
    have s4 := h ss[n] (List.getElem_mem hn)
    rw [take_snoc hs, rowsOf_snoc, List.length_flatMap]
    have : ∀ l : List (List Nat), (l.map fun r => ((List.range ss[n]).map fun v => r ++ [v]).length).sum = l.length * ss[n] := by
      intro l
      induction l with
      | nil => simp
      | cons x xs ihx =>
        rw [List.map_cons, List.sum_cons, ihx]
        simp [Nat.add_mul, Nat.add_comm]
    rw [this, Nat.pow_succ]
    exact Nat.mul_le_mul i1 s4
/-! ### one form -/
theorem wt_nonneg {r : List Nat} : ∀ {ts : List Trm}, (∀ t ∈ ts, ∀ x ∈ t.2, 0 ≤ x) → 0 ≤ wt r ts
  | [], _ => Int.le_refl _
  | t :: ts, h => by
    have ih := wt_nonneg (r := r) fun u hu => h u (List.mem_cons_of_mem _ hu)
    rw [wt_cons]
    have : 0 ≤ t.2.getD (r.getD t.1 0) 0 := by
      rw [List.getD_eq_getElem?_getD]
      cases e : t.2[r.getD t.1 0]? with
      | none => exact Int.le_refl _
      | some x => exact h t List.mem_cons_self x (List.mem_of_getElem? e)
    omega
/-- the weight of the value v at the choice c -/
def at1 (ts : List Trm) (c v : Nat) : Int := (ts.map fun t => if t.1 = c then t.2.getD v 0 else 0).sum
theorem at1_cons (t : Trm) (ts : List Trm) (c v : Nat) : at1 (t :: ts) c v = (if t.1 = c then t.2.getD v 0 else 0) + at1 ts c v := by
  simp [at1]
theorem at1_none {ss : List Nat} {c v : Nat} : ∀ {ts : List Trm} {k : Nat}, c < k → TmOk ss k ts → at1 ts c v = 0
  | [], _, _, _ => rfl
  | t :: ts, k, h, ⟨a, _, d⟩ => by
    have := at1_none (c := c) (v := v) (k := t.1 + 1) (by omega) d
    rw [at1_cons, if_neg (by omega), this]
    rfl
/-- a row changed at one choice -/
theorem wt_set {ss : List Nat} {r : List Nat} {c v : Nat} (hc : c < r.length) : ∀ {ts : List Trm} {k : Nat}, TmOk ss k ts → wt (r.set c v) ts - at1 ts c v = wt r ts - at1 ts c (r.getD c 0)
  | [], _, _ => rfl
  | t :: ts, k, ⟨a, _, d⟩ => by
    have ih := wt_set (c := c) (v := v) hc d
    rw [wt_cons, wt_cons, at1_cons, at1_cons]
    by_cases e : t.1 = c
    · subst e
      rw [if_pos rfl, if_pos rfl]
      have : (r.set t.1 v).getD t.1 0 = v := by rw [List.getD_eq_getElem?_getD, List.getElem?_set_self hc]; rfl
      rw [this]
      omega
    · rw [if_neg e, if_neg e]
      have : (r.set c v).getD t.1 0 = r.getD t.1 0 := by rw [List.getD_eq_getElem?_getD, List.getElem?_set_ne (Ne.symm e), ← List.getD_eq_getElem?_getD]
      rw [this]
      omega
theorem row_set {ss r : List Nat} {c v s : Nat} (h : RowOk ss r) (hs : ss[c]? = some s) (lt : v < s) : RowOk ss (r.set c v) := by
  refine ⟨by simp [h.1], fun i w e => ?_⟩
  by_cases hi : c = i
  · subst hi
    have lc : c < r.length := by
      have := (List.getElem?_eq_some_iff.mp e).1
      simpa using this
    rw [List.getElem?_set_self lc] at e
    cases e
    exact ⟨s, hs, lt⟩
  · rw [List.getElem?_set_ne hi] at e
    exact h.2 i w e
theorem row_zero {ss : List Nat} (h : ∀ s ∈ ss, 1 ≤ s) : RowOk ss (ss.map fun _ => 0) := by
  refine ⟨by simp, fun i v e => ?_⟩
  rw [List.getElem?_map] at e
  cases q : ss[i]? with
  | none => rw [q] at e; cases e
  | some s =>
    rw [q] at e
    cases e
    exact ⟨s, rfl, h s (List.mem_of_getElem? q)⟩
/-- the weights at a choice are the same but for a number, so the same -/
theorem at1_same {ss : List Nat} (h1 : ∀ s ∈ ss, 1 ≤ s) {a b : List Trm × Int} (ha : SumOk ss a) (hb : SumOk ss b) (eq : ∀ r, RowOk ss r → wt r a.1 - a.2 = wt r b.1 - b.2) (c s : Nat) (hs : ss[c]? = some s) :
    ∀ v w, v < s → w < s → at1 a.1 c v - at1 b.1 c v = at1 a.1 c w - at1 b.1 c w := by
  intro v w lv lw
  have r0 := row_zero h1
  have lc : c < (ss.map fun _ => 0).length := by
    have := (List.getElem?_eq_some_iff.mp hs).1
    simpa using this
  have e1 := wt_set (v := v) lc ha.tm
  have e2 := wt_set (v := v) lc hb.tm
  have e3 := wt_set (v := w) lc ha.tm
  have e4 := wt_set (v := w) lc hb.tm
  have q1 := eq _ (row_set r0 hs lv)
  have q2 := eq _ (row_set r0 hs lw)
  omega
/-- the weights at a choice: none, or the ones of its term -/
theorem at1_of {ss : List Nat} {c : Nat} : ∀ {ts : List Trm} {k : Nat}, TmOk ss k ts → (∀ v, at1 ts c v = 0) ∧ (∀ t ∈ ts, t.1 ≠ c) ∨ ∃ t ∈ ts, t.1 = c ∧ ∀ v, at1 ts c v = t.2.getD v 0
  | [], _, _ => .inl ⟨fun _ => rfl, fun t h => by cases h⟩
  | t :: ts, k, ⟨a, b, d⟩ => by
    by_cases e : t.1 = c
    · refine .inr ⟨t, List.mem_cons_self, e, fun v => ?_⟩
      have := at1_none (v := v) (c := c) (by omega) d
      rw [at1_cons, if_pos e, this]
      omega
    · rcases at1_of (c := c) d with ⟨h1, h2⟩ | ⟨u, h1, h2, h3⟩
      · refine .inl ⟨fun v => ?_, fun u hu => ?_⟩
        · have := h1 v
          rw [at1_cons, if_neg e, this]
          rfl
        · rcases List.mem_cons.mp hu with q | q
          · rw [q]; exact e
          · exact h2 u q
      · refine .inr ⟨u, List.mem_cons_of_mem _ h1, h2, fun v => ?_⟩
        have := h3 v
        rw [at1_cons, if_neg e]
        omega
theorem getD_mem {ws : List Int} {v : Nat} (h : v < ws.length) : ws.getD v 0 ∈ ws := by
  rw [List.getD_eq_getElem?_getD, List.getElem?_eq_getElem h]
  exact List.getElem_mem h
theorem mem_getD {ws : List Int} {x : Int} (h : x ∈ ws) : ∃ v, v < ws.length ∧ ws.getD v 0 = x := by
  obtain ⟨v, l, e⟩ := List.getElem_of_mem h
  exact ⟨v, l, by rw [List.getD_eq_getElem?_getD, List.getElem?_eq_getElem l]; exact e⟩
/-- a sum's weights at a choice are never below 0, and 0 at some value -/
theorem at1_low {ss : List Nat} {a : List Trm × Int} (ha : SumOk ss a) {c s : Nat} (hs : ss[c]? = some s) (h1 : 1 ≤ s) : (∀ v, v < s → 0 ≤ at1 a.1 c v) ∧ ∃ v, v < s ∧ at1 a.1 c v = 0 := by
  rcases at1_of (c := c) ha.tm with ⟨z, _⟩ | ⟨t, m, e, z⟩
  · exact ⟨fun v _ => by rw [z]; exact Int.le_refl _, 0, by omega, z 0⟩
  · obtain ⟨_, s', e1, e2, e3⟩ := ha.tm.lt m
    rw [e, hs] at e1
    cases e1
    obtain ⟨m0, _⟩ := ha.all t m
    refine ⟨fun v lv => ?_, ?_⟩
    · rw [z]
      have := mnL_le (getD_mem (ws := t.2) (v := v) (by omega))
      omega
    · obtain ⟨v, lv, ev⟩ := mem_getD (mnL_mem (ne_of_len e2 e3))
      exact ⟨v, by omega, by rw [z, ev, m0]⟩
theorem at1_eq {ss : List Nat} (h1 : ∀ s ∈ ss, 1 ≤ s) {a b : List Trm × Int} (ha : SumOk ss a) (hb : SumOk ss b) (eq : ∀ r, RowOk ss r → wt r a.1 - a.2 = wt r b.1 - b.2) (c s : Nat) (hs : ss[c]? = some s) (v : Nat) (lv : v < s) : at1 a.1 c v = at1 b.1 c v := by
  have sm := at1_same h1 ha hb eq c s hs
  obtain ⟨p1, v1, l1, z1⟩ := at1_low ha hs (h1 s (List.mem_of_getElem? hs))
  obtain ⟨p2, v2, l2, z2⟩ := at1_low hb hs (h1 s (List.mem_of_getElem? hs))
  have e1 := sm v1 v2 l1 l2
  have e2 := sm v v1 lv l1
  have q1 := p1 v2 l2
  have q2 := p2 v1 l1
  omega
/-- the terms are told by their weights -/
theorem terms_eq {ss : List Nat} : ∀ {ts us : List Trm} {k : Nat}, TmOk ss k ts → TmOk ss k us → (∀ t ∈ ts, mnL t.2 = 0 ∧ 0 < mxL t.2) → (∀ t ∈ us, mnL t.2 = 0 ∧ 0 < mxL t.2) → (∀ c s v, ss[c]? = some s → v < s → at1 ts c v = at1 us c v) → ts = us
  | [], [], _, _, _, _, _, _ => rfl
  | [], u :: us, k, _, ⟨a, ⟨s, b1, b2, b3⟩, d⟩, _, hu, eq => by
    exfalso
    obtain ⟨v, lv, ev⟩ := mem_getD (mxL_mem (ne_of_len b2 b3))
    have q := eq u.1 s v b1 (by omega)
    have z := at1_none (v := v) (c := u.1) (Nat.lt_succ_self _) d
    have p := (hu u List.mem_cons_self).2
    rw [at1_cons, if_pos rfl, ev, z] at q
    simp only [at1, List.map_nil, List.sum_nil] at q
    omega
  | t :: ts, [], k, ⟨a, ⟨s, b1, b2, b3⟩, d⟩, _, ht, _, eq => by
    exfalso
    obtain ⟨v, lv, ev⟩ := mem_getD (mxL_mem (ne_of_len b2 b3))
    have q := eq t.1 s v b1 (by omega)
    have z := at1_none (v := v) (c := t.1) (Nat.lt_succ_self _) d
    have p := (ht t List.mem_cons_self).2
    rw [at1_cons, if_pos rfl, ev, z] at q
    simp only [at1, List.map_nil, List.sum_nil] at q
    omega
  | t :: ts, u :: us, k, ⟨a, ⟨s, b1, b2, b3⟩, d⟩, ⟨a', ⟨s', b1', b2', b3'⟩, d'⟩, ht, hu, eq => by
    have e0 : t.1 = u.1 := by
      rcases Nat.lt_trichotomy t.1 u.1 with l | l | l
      · exfalso
        obtain ⟨v, lv, ev⟩ := mem_getD (mxL_mem (ne_of_len b2 b3))
        have q := eq t.1 s v b1 (by omega)
        have z := at1_none (v := v) (c := t.1) (Nat.lt_succ_self _) d
        have z' := at1_none (v := v) (c := t.1) (ts := u :: us) (k := u.1) l ⟨Nat.le_refl _, ⟨s', b1', b2', b3'⟩, d'⟩
        have p := (ht t List.mem_cons_self).2
        rw [z'] at q
        rw [at1_cons, if_pos rfl, ev, z] at q
        omega
      · exact l
      · exfalso
        obtain ⟨v, lv, ev⟩ := mem_getD (mxL_mem (ne_of_len b2' b3'))
        have q := eq u.1 s' v b1' (by omega)
        have z := at1_none (v := v) (c := u.1) (Nat.lt_succ_self _) d'
        have z' := at1_none (v := v) (c := u.1) (ts := t :: ts) (k := t.1) l ⟨Nat.le_refl _, ⟨s, b1, b2, b3⟩, d⟩
        have p := (hu u List.mem_cons_self).2
        rw [z'] at q
        rw [at1_cons, if_pos rfl, ev, z] at q
        omega
    have es : s = s' := by rw [e0, b1'] at b1; cases b1; rfl
    have e2 : t.2 = u.2 := by
      refine List.ext_getElem (by omega) fun v l1 l2 => ?_
      have q := eq t.1 s v b1 (by omega)
      have z := at1_none (v := v) (c := t.1) (Nat.lt_succ_self _) d
      have z' := at1_none (v := v) (c := t.1) (by rw [e0]; exact Nat.lt_succ_self _) d'
      rw [at1_cons, at1_cons, if_pos rfl, if_pos e0.symm, z, z', List.getD_eq_getElem?_getD, List.getD_eq_getElem?_getD, List.getElem?_eq_getElem l1, List.getElem?_eq_getElem l2] at q
      simp only [Option.getD_some] at q
      omega
    have et : t = u := Prod.ext e0 e2
    subst et
    have ih := terms_eq d d' (fun x hx => ht x (List.mem_cons_of_mem _ hx)) (fun x hx => hu x (List.mem_cons_of_mem _ hx)) fun c s v hs lv => by
      have q := eq c s v hs lv
      rw [at1_cons, at1_cons] at q
      omega
    rw [ih]
/-- two sums have the same weights less bound at every row exactly if they are equal -/
theorem one_form {ss : List Nat} (h1 : ∀ s ∈ ss, 1 ≤ s) {a b : List Trm × Int} (ha : SumOk ss a) (hb : SumOk ss b) (eq : ∀ r, RowOk ss r → wt r a.1 - a.2 = wt r b.1 - b.2) : a = b := by
  have ets : a.1 = b.1 := terms_eq ha.tm hb.tm ha.all hb.all fun c s v hs lv => at1_eq h1 ha hb eq c s hs v lv
  have q := eq _ (row_zero h1)
  rw [ets] at q
  exact Prod.ext ets (by omega)
end BK
set_option Elab.async false
set_option linter.all false
set_option maxRecDepth 100000
set_option maxHeartbeats 4000000
/-! KitO: tests with or. -/
namespace BK
open PySem PySem.Spec PyProof.Rows L2
/-- a or b or ..., as a test -/
structure PO (X : Cx) (pos : Pos) (es : List Expr) (t : TT) : Prop where
  run : ∀ (whole : Sem Value) (pins : List (Addr × Obj)) (s : Shared) (σ : L2.St) (H : Hp) (Q : Bool → Hp → Prop), Inv X pins σ H s → t σ H Q →
    wpAny (model X.prog X.w) X.A (isTrue (.BoolOp .Or es pos) X.env whole) (fun d s' => ∃ H', Inv X pins σ H' s' ∧ Q d H') X.xe s
def tOr0 : TT := fun _ H Q => Q false H
def tOr1 (t u : TT) : TT := fun σ H Q => t σ H fun c H1 => if c = true then Q true H1 else u σ H1 Q
section
variable {X : Cx} {pos : Pos} {e : Expr} {es : List Expr} {t u : TT}
theorem po_nil : PO X pos [] tOr0 := ⟨fun _ _ _ _ H _ I h => isTrue_or_nil ⟨H, I, h⟩⟩
theorem po_cons (a : PT X e t) (r : PO X pos es u) : PO X pos (e :: es) (tOr1 t u) := by
  constructor
  intro whole pins s σ H Q I h
  apply isTrue_or
  apply thn (a.run pins s σ H _ I h)
  rintro c s1 ⟨H1, I1, q⟩
  cases c with
  | true => exact ⟨H1, I1, q⟩
  | false => exact r.run whole pins s1 σ H1 Q I1 q
theorem pt_or (o : PO X pos es t) : PT X (.BoolOp .Or es pos) t := ⟨fun pins s σ H Q I h => o.run _ pins s σ H Q I h⟩
end
end BK
set_option Elab.async false
set_option linter.all false
set_option maxRecDepth 100000
set_option maxHeartbeats 4000000
/-! KitN: enumerate of a tuple. -/
namespace BK
open PySem PySem.Spec PyProof.Rows L2
/-- enumerate(v), v by what its iterator is -/
theorem enum_meets {v : Value} {o : Obj} {Z : Heap → Prop} (B : Begins v o Z) :
    Meets (Builtin.«enumerate.__new__» ⟨[.type "enumerate", v], []⟩) (fun _ R s => Z s.heap ∧
      R (.ok (.ret (.ref (s.heap.push o).objs.size))) { s with heap := (s.heap.push o).push { cls := .type "enumerate", data := .fields #[.none, .bool false, .ref s.heap.objs.size, rawInt 0, .none, .none] } }) := by
  apply Meets.of_wp
  rintro prog w A R ⟨hp, g, d, tk, os⟩ ⟨z, fin⟩
  have sub := sub_enumerate
  have it : ∀ {A' : Around} {E : Value → Shared → Prop} {Q : Value → Shared → Prop}, Q (.ref hp.objs.size) ⟨hp.push o, g, d, tk, os⟩ → wpAny (model prog w) A' (pyIter v) Q E ⟨hp, g, d, tk, os⟩ := fun q => B.iter prog w _ _ _ _ z q
  wp_walk using it
  apply wpAny_stack_any
  intro st
  apply wpAny_pure
  split
  · rename_i c _ _ _ _ _
    by_cases e : (c == Value.type "enumerate") = true <;> simp only [e] <;> (wp_walk using it; exact ⟨_, rfl, fin⟩)
  · wp_walk using it
    exact ⟨_, rfl, fin⟩
section
variable {prog : Program} {w : World} {A : Around} {E : Value → Shared → Prop} {s : Shared}
theorem call_enumT {t : Addr} {its : Array Value} {Q : Value → Shared → Prop} (ht : s.heap.IsTuple t its)
    (h : ∀ h', IsEnum h' (s.heap.objs.size + 1) s.heap.objs.size 0 .none → h'.IsTupleIter s.heap.objs.size t 0 → (∀ b o, s.heap.get? b = some o → h'.get? b = some o) → Q (.ref (s.heap.objs.size + 1)) { s with heap := h' }) :
    wpAny (model prog w) A (call (.type "enumerate") [.ref t]) Q E s := by
  apply callType_new F.called_enumerate (by decide) (F.typeCall_enumerate_1 _) (F.newCall_enumerate_1 _) (fun obj => F.args_object_init_2 obj _) F.entry_enumerate_new (enum_meets (begins_tuple t its))
  refine ⟨ht, ?_⟩
  generalize eo : ({ cls := .type "tuple_iterator", data := .fields #[.ref t, .int 0 0] } : Obj) = o
  have free : o.isFreed = false := by rw [← eo]; rfl
  have size1 : (s.heap.push o).objs.size = s.heap.objs.size + 1 := Heap.size_push ..
  generalize ee : ({ cls := .type "enumerate", data := .fields #[.none, .bool false, .ref s.heap.objs.size, rawInt 0, .none, .none] } : Obj) = e
  have free2 : e.isFreed = false := by rw [← ee]; rfl
  have atE : ((s.heap.push o).push e).get? (s.heap.objs.size + 1) = some e := by
    have := Heap.get?_push_size (s.heap.push o) (o := e) free2
    rwa [size1] at this
  have atO : ((s.heap.push o).push e).get? s.heap.objs.size = some o := Heap.get?_push_of_some _ (Heap.get?_push_size _ free)
  show _ ∧ _
  rw [size1]
  refine ⟨⟨e, atE, by rw [← ee]⟩, h _ ?_ ?_ fun b u k => Heap.get?_push_of_some _ (Heap.get?_push_of_some _ k)⟩
  · rw [← ee] at atE ⊢
    exact atE
  · rw [← eo] at atO ⊢
    exact ⟨_, atO, rfl, rfl⟩
end
/-- the tuple at a, each item in a new pair with its place -/
def Ite2 (K : PySem.W.Frag) (a : Addr) : It where
  go := fun i H => ∃ (xs : List V) (x : V), SqT K H a xs ∧ xs[i]? = some x
  yld := fun i H v H' => ∃ (T : Addr) (x : V), v = .ref T ∧ H T = none ∧ H' = upd H T (.tup [.int (i : Nat), x]) ∧ ∀ xs, SqT K H a xs → xs[i]? = some x
  stop := fun i H => ∃ xs : List V, SqT K H a xs ∧ xs.length = i
/-- how it stands at turn i: the enumerate at e, its iterator at it -/
def EnT (a e it : Addr) (i : Nat) (h : Heap) : Prop := (∃ old, IsEnum h e it ((i : Nat) : Int) old) ∧ h.IsTupleIter it a i ∧ e ≠ it
theorem EnT.apart {a e it : Addr} {i : Nat} {h : Heap} {its : Array Value} (t : EnT a e it i h) (p : h.IsTuple a its) : a ≠ it ∧ a ≠ e := by
  obtain ⟨⟨old, he⟩, ⟨o, ho, hc, _⟩, _⟩ := t
  obtain ⟨o2, h2, c2, _⟩ := p
  constructor
  · rintro rfl
    rw [ho] at h2
    cases h2
    rw [hc] at c2
    exact absurd c2 (by decide)
  · rintro rfl
    rw [he] at h2
    cases h2
    replace c2 : Value.type "enumerate" = Value.type "tuple" := c2
    exact absurd c2 (by decide)
theorem two_cases {b x y : Addr} {C : Prop} (hb : b ∈ [x, y]) (h1 : b = x → C) (h2 : b = y → C) : C := by
  simp only [List.mem_cons, List.not_mem_nil, or_false] at hb
  exact hb.elim h1 h2
theorem turn_enumT {P : Program} {w : World} {K : PySem.W.Frag} {elts : List Expr} {kk : Nat} {tpos : Pos} (a e it : Addr) : Turn P w K (.Tuple elts kk tpos) (Ite2 K a) [e, it] e (EnT a e it) where
  mem := List.mem_cons_self ..
  obj := by
    rintro i h ⟨⟨old, he⟩, ⟨o, ho, _, hd⟩, _⟩ b hb
    apply two_cases hb
    · rintro rfl
      exact ⟨_, he, fun v q => nomatch q⟩
    · rintro rfl
      exact ⟨o, ho, fun v q => by rw [hd] at q; cases q⟩
  keep := by
    rintro i h h' ⟨⟨old, he⟩, hi, ne⟩ k
    exact ⟨⟨old, k e (by simp) _ he⟩, hi.at fun o q => k it (by simp) o q, ne⟩
  item := by
    rintro X rfl rfl rfl calm i pins s σ H E I fp st ⟨xs, x, hq, hx⟩
    obtain ⟨its, rv, p, _⟩ := I.tuple hq
    have ap := st.apart (its := its.toArray) p
    obtain ⟨⟨old, he⟩, hi, ne⟩ := st
    obtain ⟨u, hu, ru⟩ := rv.get hx
    have lt : i < its.toArray.size := by
      have := (List.getElem?_eq_some_iff.mp hu).1
      simpa using this
    have el := Heap.lt_size he
    have il : it < s.heap.objs.size := by
      obtain ⟨_, q, _⟩ := hi
      exact Heap.lt_size q
    refine wpAny_pyNext_enum_itemD (Draws.tuple (A := X.A.in1) (I.ok.hd calm) it a ap.1 its.toArray) he ⟨hi, p⟩ lt ne ?_ ?_
    · simp only [List.mem_cons, List.not_mem_nil, or_false, not_or]
      exact ⟨ne, Ne.symm ap.2⟩
    · intro y h1 tk hy out st1 tup size1 keep1
      have ey : y = u := by
        have h9 : its[i]? = some y := by simpa using hy
        rw [hu] at h9
        exact (Option.some.inj h9).symm
      subst ey
      refine ⟨_, rfl, ?_⟩
      apply wpAny_letOwnedTupleGo_enum out
      intro h2 he2 sb
      have nT : s.heap.objs.size ≠ e := Nat.ne_of_gt el
      have tup2 : h2.get? s.heap.objs.size = some { cls := .type "tuple", data := .seq #[.int i tk, y] } := (sb.2 _ nT).trans tup
      have new : ObjOk X.prog X.w (upd H s.heap.objs.size (.tup [.int (i : Nat), x])) h2 s.heap.objs.size (.tup [.int (i : Nat), x]) := ⟨by show 2 ≤ sizeLine; decide, [.int i tk, y], .cons ⟨_, rfl⟩ (.cons ru .nil), ⟨_, tup2, rfl, _, rfl⟩⟩
      have J := I.turnedNew (t' := tk + 1) (h' := h2) (ch := [e, it]) (fun b ob hb q => by
        have b1 : b ≠ e := fun z => hb (by simp [z])
        have b2 : b ≠ it := fun z => hb (by simp [z])
        exact (sb.2 b b1).trans (keep1 b ob b1 b2 q)) fp (Nat.le_refl _) new
      refine ⟨.ref s.heap.objs.size, _, J, rfl, ⟨_, x, rfl, I.hok.fresh (Nat.le_refl _), rfl, fun ys hy => by rw [I.tuple_inj hy hq]; exact hx⟩, ⟨⟨y, ?_⟩, ?_, ne⟩, fun b hb => ?_⟩
      · have e1 : ((i + 1 : Nat) : Int) = (i : Int) + 1 := by omega
        rw [e1]
        exact he2
      · exact st1.1.at fun o q => (sb.2 it (Ne.symm ne)).trans q
      · have hn := (fp b hb).1
        have nb : b ≠ s.heap.objs.size := two_cases hb (fun z => by rw [z]; exact Nat.ne_of_lt el) fun z => by rw [z]; exact Nat.ne_of_lt il
        rw [upd_ne nb]
        exact hn
  done := by
    rintro X rfl rfl rfl calm i pins s σ H E I fp st ⟨xs, hq, hx⟩
    obtain ⟨its, rv, p, _⟩ := I.tuple hq
    have ap := st.apart (its := its.toArray) p
    obtain ⟨⟨old, he⟩, hi, ne⟩ := st
    have hl := rv.length
    have ei : its.toArray.size = i := by
      simp only [List.size_toArray]
      omega
    rw [← ei] at hi
    refine wpAny_pyNext_enum_endD (Draws.tuple (A := X.A.in1) (I.ok.hd calm) it a ap.1 its.toArray) he ⟨hi, p⟩ fun h' eb => ⟨rfl, ?_⟩
    obtain ⟨f0, f1, f2, f3, f4, f5⟩ := fp it (by simp)
    exact I.turned (t' := s.toks) (fun b o hb q => eb b o hb q) f0 f1 f3 f4 f5
  self := by
    rintro A i s Q E ⟨⟨old, he⟩, _⟩ h
    exact wpAny_pyIter_enum he h
def iEnumT (K : PySem.W.Frag) (ta : TA) : TI := fun σ H R => ta σ H fun vs H1 => ∃ a xs, vs = [.ref a] ∧ SqT K H1 a xs ∧ R (Ite2 K a) H1
theorem pi_enumT {X : Cx} {e : Expr} {ta : TA} {p pos tpos : Pos} {elts : List Expr} {kk : Nat} (hg : Gl X "enumerate") (hm : X.mg "enumerate" = none) (ha : PA X [e] ta) (hs : starEach [e] X.env = [(false, eval e X.env)] := by rfl) :
    PI X (.Tuple elts kk tpos) (.Call (.Name "enumerate" p) [e] [] pos) (iEnumT X.K ta) := by
  constructor
  intro pins s σ H R I h
  refine Call_ ?_
  apply ld_blt I hg hm boot_enumerate
  apply PyProof.Rows.callWith_type1 _ hs rfl
  apply thn (ha.run pos pins s σ H _ I h)
  rintro us s1 ⟨vs, H1, I1, r1, a, xs, rfl, hq, q⟩
  cases r1 with
  | cons r rr =>
    cases rr
    obtain rfl : _ = Value.ref a := r
    obtain ⟨its, rv, pt, _⟩ := I1.tuple hq
    have pT : s1.heap.IsTuple a its.toArray := pt
    apply call_enumT pT
    intro h' he hi keep
    apply wpAny_pyIter_enum he
    refine ⟨s1.heap.objs.size + 1, [s1.heap.objs.size + 1, s1.heap.objs.size], _, Ite2 X.K a, H1, rfl, I1.kept (t' := s1.toks) keep, turn_enumT a (s1.heap.objs.size + 1) s1.heap.objs.size, ⟨⟨.none, he⟩, hi, Nat.succ_ne_self _⟩, fun b hb => ?_, q⟩
    have le : s1.heap.objs.size ≤ b := two_cases hb (fun z => by rw [z]; exact Nat.le_succ _) fun z => by rw [z]; exact Nat.le_refl _
    exact I1.fpOk le (I1.hok.fresh le)
/-- a loop over it -/
theorem for_enumT {K : PySem.W.Frag} {a : Addr} {xs : List V} {g : TG} {tb : TS} {D : Ends} {σ : L2.St} {H : Hp} (Pv : Nat → L2.St → Hp → Prop) (h0 : Pv 0 σ H) (hl : ∀ i σ H, i ≤ xs.length → Pv i σ H → SqT K H a xs)
    (hs : ∀ i x σ H T, xs[i]? = some x → Pv i σ H → H T = none → g (.ref T) σ (upd H T (.tup [.int (i : Nat), x])) fun σ2 H2 => tb { D with nx := Pv (i + 1), ct := Pv (i + 1), bk := D.nx } σ2 H2) (hd : ∀ σ H, Pv xs.length σ H → D.nx σ H) :
    ∃ W : Nat → Nat → L2.St → Hp → Prop, (∃ m, W 0 m σ H) ∧ ∀ i m σ H, W i m σ H →
      ((Ite2 K a).stop i H ∧ D.nx σ H) ∨ ((Ite2 K a).go i H ∧ ∃ N : L2.St → Hp → Prop, (∀ σ' H', N σ' H' → ∃ m', m' < m ∧ W (i + 1) m' σ' H') ∧ ∀ x H', (Ite2 K a).yld i H x H' → g x σ H' fun σ2 H2 => tb { D with nx := N, ct := N, bk := D.nx } σ2 H2) := by
  refine ⟨fun i m σ H => i ≤ xs.length ∧ m = xs.length - i ∧ Pv i σ H, ⟨_, Nat.zero_le _, rfl, h0⟩, ?_⟩
  rintro i m σ H ⟨le, rfl, pv⟩
  have hq := hl i σ H le pv
  by_cases e : i = xs.length
  · subst e
    exact .inl ⟨⟨xs, hq, rfl⟩, hd σ H pv⟩
  · have lt : i < xs.length := by omega
    refine .inr ⟨⟨xs, xs[i], hq, by simp [lt]⟩, Pv (i + 1), fun σ' H' h => ⟨_, by omega, by omega, rfl, h⟩, ?_⟩
    rintro x H' ⟨T, y, rfl, hT, rfl, hy⟩
    exact hs i y σ H T (hy xs hq) pv hT
end BK
set_option Elab.async false
set_option linter.all false
set_option maxRecDepth 100000
set_option maxHeartbeats 4000000
/-! KitW: min, max of a tuple of ints; heaps that grow beside the tables of code objects. -/
namespace BK
open PySem PySem.Spec PyProof.Rows L2 LamX
section
variable {prog : Program} {w : World} {A : Around} {E : Value → Shared → Prop} {s : Shared}
theorem walks_tup {t : Addr} {its : Array Value} (hh : A.handled = none) (ht : s.heap.IsTuple t its) : ∃ (fp wr : List Addr) (St : Nat → Shared → Prop), WalksS prog w A s.heap.objs.size fp wr (fun a b => b = a) its.size (fun i v => its[i]? = some v) St ∧
    St 0 { s with heap := s.heap.push { cls := .type "tuple_iterator", data := .fields #[.ref t, .int 0 0] } } ∧ (∀ b ∈ fp, b < (s.heap.push { cls := .type "tuple_iterator", data := .fields #[.ref t, .int 0 0] }).objs.size) ∧ ∀ b ∈ wr, b = s.heap.objs.size := by
  obtain ⟨o, ho, hc, n, hd⟩ := id ht
  have hne : t ≠ s.heap.objs.size := Nat.ne_of_lt (Heap.lt_size ho)
  have W := (Walks.tuple (prog := prog) (w := w) (A := A) hh s.heap.objs.size t hne its).toS
  refine ⟨_, _, _, W, ⟨⟨_, Heap.get?_push_size _ rfl, rfl, rfl⟩, ht.at fun o e => Heap.get?_push_of_some _ e⟩, fun b hb => ?_, fun b hb => List.mem_singleton.mp hb⟩
  rcases List.mem_cons.mp hb with e | hb
  · rw [e]
    exact Heap.lt_size (Heap.get?_push_size _ rfl)
  · rw [List.mem_singleton.mp hb]
    exact Heap.lt_size (Heap.get?_push_of_some _ ho)
end
section
variable {X : Cx}
abbrev rLeast (K : PySem.W.Frag) (f : List Int → Int) : List V → Hp → VK → Prop := fun vs H Q => ∃ (a : Addr) (ns : List Int), vs = [V.ref a] ∧ SqT K H a (ns.map V.int) ∧ ns ≠ [] ∧ Q (.int (f ns)) H
theorem val_at : ∀ {ns : List Int} {us : List Value} {i : Nat} {v : Value}, Vals (ns.map V.int) us → us[i]? = some v → ∃ n, ns[i]? = some n ∧ ∃ t, v = .int n t
  | [], _, _, _, r, e => by
    cases r
    simp at e
  | n :: ns, _, 0, _, r, e => by
    cases r with
    | cons a b =>
      simp at e
      subst e
      exact ⟨n, rfl, a⟩
  | n :: ns, _, i + 1, _, r, e => by
    cases r with
    | cons a b =>
      obtain ⟨m, h1, h2⟩ := val_at (i := i) b (by simpa using e)
      exact ⟨m, by simpa using h1, h2⟩
theorem gD {ns : List Int} {i : Nat} {n : Int} (h : ns[i]? = some n) : ns.getD i 0 = n := by rw [List.getD_eq_getElem?_getD, h]; rfl
theorem call_minT (hc : X.calm = true) : CallR X (.builtin "min") (rLeast X.K mnL) := by
  intro pins s σ H xs us Q I r h
  obtain ⟨a, ns, rfl, hs, ne, q⟩ := h
  cases r with
  | cons rx rr =>
    cases rr
    obtain rfl : _ = Value.ref a := rx
    obtain ⟨its, rv, ht, _⟩ := I.tuple hs
    have hl : s.heap.IsTuple a its.toArray := ht
    have ln : its.toArray.size = ns.length := by simpa using rv.length.symm
    have pos : 0 < ns.length := List.length_pos_iff.mpr ne
    obtain ⟨fp, wr, St, W, st0, hfp, hwr⟩ := walks_tup (prog := X.prog) (w := X.w) (A := X.A.in1) (I.ok.hd hc) hl
    refine call_min_walkS (wpAny_pyIter_tuple hl ⟨s.heap.objs.size, fp, wr, _, _, _, St, _, rfl, W, st0, hfp, by omega, CmpOf.ints_lt (fun i => ns.getD i 0) (fun i v hv => ?_), fun v s' hv hm => ?_⟩)
    · obtain ⟨n, e1, t, e2⟩ := val_at rv (by rw [← List.getElem?_toArray]; exact hv)
      exact ⟨t, by rw [e2, gD e1]⟩
    · obtain ⟨n, e1, t, e2⟩ := val_at rv (by rw [← List.getElem?_toArray]; exact hv)
      have hb := argBest_lt (fun i => ns.getD i 0) (its.toArray.size - 1)
      have em : n = mnL ns := by
        refine mnL_eq (List.mem_of_getElem? e1) fun x hx => ?_
        obtain ⟨j, lj, ej⟩ := mem_getD hx
        have := hb.2 j (by omega)
        rw [gD e1, ej] at this
        exact this
      subst em
      have es := GxR.sh_eta s s' hm.os
      have k : ∀ b o, s.heap.get? b = some o → s'.heap.get? b = some o := fun b o e => hm.heap b o (fun z => by
        have := Heap.lt_size e
        rw [hwr b z] at this
        exact Nat.lt_irrefl _ this) (Heap.get?_push_of_some _ e)
      refine ⟨.int (mnL ns), H, inv_sleepA I ⟨hm.os, by rw [show s'.gens = s.gens from hm.gens]; exact I.bare, k⟩, ⟨t, e2⟩, q⟩
where
  inv_sleepA {X : Cx} {pins : List (Addr × Obj)} {σ : L2.St} {H : Hp} {s s' : Shared} (I : Inv X pins σ H s) (k : s'.os = s.os ∧ AllBare s'.gens ∧ ∀ b o, s.heap.get? b = some o → s'.heap.get? b = some o) : Inv X pins σ H s' :=
    I.call' (ch := []) k.1 (Un.kept k.2.2) (I.hok.kept k.2.2) k.2.1 fun b z => by simp at z
theorem call_maxT (hc : X.calm = true) : CallR X (.builtin "max") (rLeast X.K mxL) := by
  intro pins s σ H xs us Q I r h
  obtain ⟨a, ns, rfl, hs, ne, q⟩ := h
  cases r with
  | cons rx rr =>
    cases rr
    obtain rfl : _ = Value.ref a := rx
    obtain ⟨its, rv, ht, _⟩ := I.tuple hs
    have hl : s.heap.IsTuple a its.toArray := ht
    have ln : its.toArray.size = ns.length := by simpa using rv.length.symm
    have pos : 0 < ns.length := List.length_pos_iff.mpr ne
    obtain ⟨fp, wr, St, W, st0, hfp, hwr⟩ := walks_tup (prog := X.prog) (w := X.w) (A := X.A.in1) (I.ok.hd hc) hl
    refine call_max_walkS (wpAny_pyIter_tuple hl ⟨s.heap.objs.size, fp, wr, _, _, _, St, _, rfl, W, st0, hfp, by omega, CmpOf.ints_gt (fun i => ns.getD i 0) (fun i v hv => ?_), fun v s' hv hm => ?_⟩)
    · obtain ⟨n, e1, t, e2⟩ := val_at rv (by rw [← List.getElem?_toArray]; exact hv)
      exact ⟨t, by rw [e2, gD e1]⟩
    · obtain ⟨n, e1, t, e2⟩ := val_at rv (by rw [← List.getElem?_toArray]; exact hv)
      have hb := argBest_gt (fun i => ns.getD i 0) (its.toArray.size - 1)
      have em : n = mxL ns := by
        refine mxL_eq (List.mem_of_getElem? e1) fun x hx => ?_
        obtain ⟨j, lj, ej⟩ := mem_getD hx
        have := hb.2 j (by omega)
        rw [gD e1, ej] at this
        exact this
      subst em
      have k : ∀ b o, s.heap.get? b = some o → s'.heap.get? b = some o := fun b o e => hm.heap b o (fun z => by
        have := Heap.lt_size e
        rw [hwr b z] at this
        exact Nat.lt_irrefl _ this) (Heap.get?_push_of_some _ e)
      exact ⟨.int (mxL ns), H, call_minT.inv_sleepA I ⟨hm.os, by rw [show s'.gens = s.gens from hm.gens]; exact I.bare, k⟩, ⟨t, e2⟩, q⟩
end
/-! ### heaps that grow -/
/-- all but the tables stays; the tables are as they must be -/
structure Gq (T : List (Addr × Str)) (H H' : Hp) : Prop where
  ext : ExtN H H'
  tb : Tabs T H'
/-- one name a table -/
def Uq (T : List (Addr × Str)) : Prop := ∀ p ∈ T, ∀ p' ∈ T, p.1 = p'.1 → p.2 = p'.2
section
variable {T : List (Addr × Str)}
theorem Gq.refl {H : Hp} (t : Tabs T H) : Gq T H H := ⟨ExtN.refl H, t⟩
theorem Gq.trans {H H1 H2 : Hp} (a : Gq T H H1) (b : Gq T H1 H2) : Gq T H H2 := ⟨a.ext.trans b.ext, b.tb⟩
theorem tabs_new {H : Hp} {p : Addr} {o : HO} (h : H p = none) (t : Tabs T H) : Tabs T (upd H p o) := t.ext fun b u e => by
  rw [upd_ne (ne_of_none e h)]
  exact e
theorem Gq.new {H H1 : Hp} {p : Addr} {o : HO} (a : Gq T H H1) (h : H1 p = none) : Gq T H (upd H1 p o) := ⟨a.ext.trans (ext_new h), tabs_new h a.tb⟩
theorem Gq.same {H H1 H2 : Hp} (a : Gq T H H1) (e : Same H1 H2) : Gq T H H2 := ⟨a.ext.trans (ExtN.of e), a.tb.ext e⟩
theorem Gq.rep {H H' : Hp} {K : PySem.W.Frag} {v : V} {d : PyData} (a : Gq T H H') (r : Rep K H v d) : Rep K H' v d := r.ext a.ext
theorem Gq.free {H H' : Hp} (a : Gq T H H') {p : Addr} (h : H' p = none) (nt : ∀ ps, H p ≠ some (.tbl ps)) : H p = none := by
  cases q : H p with
  | none => rfl
  | some o =>
    have := a.ext p o q (fun ps z => nt ps (by rw [q, z]))
    rw [h] at this
    cases this
/-- the table at P has grown -/
theorem Gq.grow {H H' : Hp} {P : Addr} {q : Str} (u : Uq T) (m : (P, q) ∈ T) (t : Tabs T H) (g : Grow P q H H') : Gq T H H' := by
  obtain ⟨ps, e1, _, _⟩ := t _ m
  have ex := g.ext e1
  refine ⟨ex, fun p hp => ?_⟩
  by_cases z : p.1 = P
  · rw [z, u p hp (P, q) m z]
    exact g.1
  · obtain ⟨qs, h1, h2, h3⟩ := t p hp
    refine ⟨qs, g.2 _ _ z h1, h2, fun pos cv hc => ?_⟩
    obtain ⟨c, r1, r2⟩ := h3 pos cv hc
    exact ⟨c, r1, g.2 _ _ (fun y => by rw [y, e1] at r2; cases r2) r2⟩
/-- a list of ours, new since H, is written -/
theorem Gq.wrote {H H1 : Hp} {p : Addr} {xs : List V} {o : HO} (a : Gq T H H1) (n : H p = none) (h : H1 p = some (.lst xs)) : Gq T H (upd H1 p o) := by
  refine ⟨ext_mut a.ext n, fun q hq => ?_⟩
  obtain ⟨ps, h1, h2, h3⟩ := a.tb q hq
  have np : q.1 ≠ p := fun z => by rw [z, h] at h1; cases h1
  refine ⟨ps, by rw [upd_ne np]; exact h1, h2, fun pos cv hc => ?_⟩
  obtain ⟨c, r1, r2⟩ := h3 pos cv hc
  exact ⟨c, r1, by rw [upd_ne (fun z => by rw [z, h] at r2; cases r2)]; exact r2⟩
end
/-! ### data -/
def dN (l : List Nat) : PyData := .tuple (l.map fun n => .int (n : Nat))
def dW (ws : List Int) : PyData := .tuple (ws.map .int)
def dTm (t : Trm) : PyData := .tuple [.int (t.1 : Nat), dW t.2]
def dTs (ts : List Trm) : PyData := .tuple (ts.map dTm)
def dSm (s : List Trm × Int) : PyData := .tuple [dTs s.1, .int s.2]
section
variable {K : PySem.W.Frag} {H : Hp}
theorem rep_at : ∀ {xs : List V} {ds : List PyData} {i : Nat} {x : V}, RepAll K H xs ds → xs[i]? = some x → ∃ d, ds[i]? = some d ∧ Rep K H x d
  | _, _, _, _, .nil, e => by simp at e
  | _, _, 0, _, .cons h _, e => by
    simp at e
    subst e
    exact ⟨_, rfl, h⟩
  | _, _, i + 1, _, .cons _ r, e => by
    obtain ⟨d, a, b⟩ := rep_at (i := i) r (by simpa using e)
    exact ⟨d, by simpa using a, b⟩
end
end BK
set_option Elab.async false
set_option linter.all false
set_option maxRecDepth 100000
set_option maxHeartbeats 4000000
/-! KitP: data of ints and tuples: compared, shown. -/
namespace BK
open PySem PySem.Spec PyProof.Rows L2 LamX
theorem ifY {c : Bool} {A B : Prop} (e : c = true) (h : A) : if c = true then A else B := by rw [if_pos e]; exact h
theorem ifN {c : Bool} {A B : Prop} (e : c = false) (h : B) : if c = true then A else B := by rw [if_neg (by rw [e]; decide)]; exact h
mutual
theorem dp_of {K : PySem.W.Frag} {H : Hp} : ∀ {v : V} {d : PyData}, Rep K H v d → Dp K H v d
  | _, _, .non => .non
  | _, _, .bl b => .bl b
  | _, _, .int i => .int i
  | _, _, .str x => .str x
  | _, _, .lst h r => .lst h (dpAll_of r)
  | _, _, .tup h r => .tup h (dpAll_of r)
theorem dpAll_of {K : PySem.W.Frag} {H : Hp} : ∀ {vs : List V} {ds : List PyData}, RepAll K H vs ds → DpAll K H vs ds
  | _, _, .nil => .nil
  | _, _, .cons h r => .cons (dp_of h) (dpAll_of r)
end
/-- ints and tuples of such, of depth k at most -/
inductive IT : Nat → PyData → Prop
  | int (k : Nat) (i : Int) : IT k (.int i)
  | tup {k : Nat} {ds : List PyData} (h : ∀ d ∈ ds, IT k d) : IT (k + 1) (.tuple ds)
theorem IT.mono {k j : Nat} {d : PyData} (h : IT k d) (e : k ≤ j) : IT j d := by
  induction h generalizing j with
  | int k i => exact .int j i
  | tup h ih =>
    obtain ⟨m, rfl⟩ : ∃ m, j = m + 1 := ⟨j - 1, by omega⟩
    exact .tup fun d hd => ih d hd (by omega)
theorem lay_all : ∀ {ds : List PyData}, (∀ d ∈ ds, d.canLay0 = true) → PyData.canLayAll0 ds = true
  | [], _ => by simp [PyData.canLayAll0]
  | d :: ds, h => by
    simp only [PyData.canLayAll0, Bool.and_eq_true]
    exact ⟨h d List.mem_cons_self, lay_all fun x hx => h x (List.mem_cons_of_mem _ hx)⟩
theorem depAll {k : Nat} : ∀ {ds : List PyData}, (∀ d ∈ ds, d.depth ≤ k) → PyData.depthAll ds ≤ k
  | [], _ => by simp [PyData.depthAll]
  | d :: ds, h => by
    simp only [PyData.depthAll]
    exact Nat.max_le.2 ⟨h d (List.mem_cons_self ..), depAll fun x hx => h x (List.mem_cons_of_mem _ hx)⟩
theorem IT.lay {k : Nat} {d : PyData} (h : IT k d) : d.canLay0 = true ∧ d.depth ≤ k := by
  induction h with
  | int k i => exact ⟨by simp [PyData.canLay0], by simp [PyData.depth]⟩
  | tup h ih =>
    refine ⟨by simp only [PyData.canLay0]; exact lay_all fun d hd => (ih d hd).1, ?_⟩
    simp only [PyData.depth]
    have := depAll fun d hd => (ih d hd).2
    omega
theorem IT.shaped {k : Nat} {d : PyData} (h : IT k d) (l : k ≤ 64) : SeqAt.shaped d = true := by
  obtain ⟨a, b⟩ := h.lay
  simp only [SeqAt.shaped, Bool.and_eq_true, decide_eq_true_eq]
  exact ⟨a, by omega⟩
theorem eqvAll_it {k : Nat} : ∀ {ds es : List PyData}, (∀ d ∈ ds, ∀ e, ∀ j, IT j e → (PyData.eqv d e = true ↔ d = e)) → (∀ e ∈ es, IT k e) → (PyData.eqvAll ds es = true ↔ ds = es)
  | [], [], _, _ => by simp [PyData.eqvAll]
  | [], _ :: _, _, _ => by simp [PyData.eqvAll]
  | _ :: _, [], _, _ => by simp [PyData.eqvAll]
  | d :: ds, e :: es, h, g => by
    rw [PyData.eqvAll, Bool.and_eq_true, h d List.mem_cons_self e k (g e List.mem_cons_self), eqvAll_it (fun x hx => h x (List.mem_cons_of_mem _ hx)) (fun x hx => g x (List.mem_cons_of_mem _ hx))]
    simp
theorem IT.eqv {k : Nat} {d : PyData} (h : IT k d) : ∀ (e : PyData) (j : Nat), IT j e → (PyData.eqv d e = true ↔ d = e) := by
  induction h with
  | int k i =>
    intro e j he
    cases he with
    | int _ n => simp [PyData.eqv]
    | tup _ => simp [PyData.eqv]
  | tup h ih =>
    intro e j he
    cases he with
    | int _ n => simp [PyData.eqv]
    | tup g =>
      simp only [PyData.eqv, PyData.tuple.injEq]
      exact eqvAll_it ih g
theorem it_ints {k : Nat} (ws : List Int) : IT (k + 1) (dW ws) := .tup fun d hd => by
  obtain ⟨i, _, rfl⟩ := List.mem_map.mp hd
  exact .int _ i
theorem it_nats {k : Nat} (l : List Nat) : IT (k + 1) (dN l) := .tup fun d hd => by
  obtain ⟨i, _, rfl⟩ := List.mem_map.mp hd
  exact .int _ _
theorem it_trm {k : Nat} (t : Trm) : IT (k + 2) (dTm t) := .tup fun d hd => by
  simp only [List.mem_cons, List.not_mem_nil, or_false] at hd
  rcases hd with rfl | rfl
  · exact .int _ _
  · exact it_ints _
theorem it_trms {k : Nat} (ts : List Trm) : IT (k + 3) (dTs ts) := .tup fun d hd => by
  obtain ⟨t, _, rfl⟩ := List.mem_map.mp hd
  exact it_trm t
theorem it_sum {k : Nat} (s : List Trm × Int) : IT (k + 4) (dSm s) := .tup fun d hd => by
  simp only [List.mem_cons, List.not_mem_nil, or_false] at hd
  rcases hd with rfl | rfl
  · exact it_trms _
  · exact .int _ _
theorem inj_map {α β : Type} {f : α → β} (h : ∀ a b, f a = f b → a = b) : ∀ {xs ys : List α}, xs.map f = ys.map f → xs = ys
  | [], [], _ => rfl
  | [], _ :: _, e => by simp at e
  | _ :: _, [], e => by simp at e
  | x :: xs, y :: ys, e => by
    simp only [List.map_cons, List.cons.injEq] at e
    rw [h x y e.1, inj_map h e.2]
theorem dW_inj {a b : List Int} (h : dW a = dW b) : a = b := inj_map (f := PyData.int) (fun a b e => by cases e; rfl) (PyData.tuple.inj h)
theorem dTm_inj {a b : Trm} (h : dTm a = dTm b) : a = b := by
  have h1 := PyData.tuple.inj h
  simp only [List.cons.injEq, PyData.int.injEq, and_true] at h1
  exact Prod.ext (by omega) (dW_inj h1.2)
theorem dTs_inj {a b : List Trm} (h : dTs a = dTs b) : a = b := inj_map (f := dTm) (fun _ _ e => dTm_inj e) (PyData.tuple.inj h)
theorem dSm_inj {a b : List Trm × Int} (h : dSm a = dSm b) : a = b := by
  have h1 := PyData.tuple.inj h
  simp only [List.cons.injEq, PyData.int.injEq, and_true] at h1
  exact Prod.ext (dTs_inj h1.1) h1.2
/-! ### shown -/
/-- what may be shown: its text, its depth -/
structure Shw (d : PyData) (n k : Nat) : Prop where
  fine : Fine d n
  dep : d.depth ≤ k
theorem Shw.mono {d : PyData} {n k m j : Nat} (h : Shw d n k) (e : n ≤ m) (f : k ≤ j) : Shw d m j := ⟨h.fine.mono e, Nat.le_trans h.dep f⟩
theorem shw_list {ds : List PyData} {m n k : Nat} (h : ∀ d ∈ ds, Shw d m k) (e : ds.length * m + ds.length * 2 + 4 + m ≤ n) : Shw (.list ds) n (k + 1) := by
  refine ⟨fine_list (fun d hd => (h d hd).fine) e, ?_⟩
  simp only [PyData.depth]
  have := depAll fun d hd => (h d hd).dep
  omega
theorem shw_tup {ds : List PyData} {m n k : Nat} (h : ∀ d ∈ ds, Shw d m k) (e : ds.length * m + ds.length * 2 + 4 + m ≤ n) : Shw (.tuple ds) n (k + 1) := by
  refine ⟨fine_tup (fun d hd => (h d hd).fine) e, ?_⟩
  simp only [PyData.depth]
  have := depAll fun d hd => (h d hd).dep
  omega
theorem shw_bl (b : Bool) : Shw (.bool b) 41 0 := ⟨(fine_bl b).mono (by decide), by simp [PyData.depth]⟩
theorem fine_intB {i : Int} (h : i.natAbs < 10 ^ 40) : Fine (.int i) 41 := by
  refine ⟨?_, ?_, by simp [PyData.depth]⟩
  · simp only [PyData.showable, decide_eq_true_eq]
    have h1 : i.natAbs.log2 ≤ (10 ^ 40 : Nat).log2 := by
      by_cases hz : i.natAbs = 0
      · rw [hz]; decide
      · exact (Nat.le_log2 (by decide)).2 (Nat.le_trans (Nat.log2_self_le hz) (Nat.le_of_lt h))
    have h2 : (10 ^ 40 : Nat).log2 < 1920 := by decide +kernel
    omega
  · rw [PyData.shown_int, PySem.ofString_length]
    exact int_text_length_le10 (k := 40) (by decide) h
theorem shw_int {i : Int} (h : i.natAbs < 10 ^ 40) : Shw (.int i) 41 0 := ⟨fine_intB h, by simp [PyData.depth]⟩
section
variable {X : Cx} {pins : List (Addr × Obj)} {σ : L2.St} {H : Hp} {s : Shared}
/-- repr(v) of plain data -/
theorem call_reprV (hg : X.A.guards = some []) (hu : X.A.units + 110 < cLine) :
    CallR X (.builtin "repr") (fun xs H Q => ∃ (v : V) (d : PyData) (n : Nat), xs = [v] ∧ Rep X.K H v d ∧ Fine d n ∧ n ≤ 16777216 ∧ d.depth ≤ 100 ∧ Q (.str d.shown) H) := by
  intro pins s σ H xs us Q I r h
  obtain ⟨v, d, n, rfl, hr, hf, hn, hd, q⟩ := h
  cases r with
  | cons rx rr =>
    cases rr
    have hsz : d.shown.length ≤ sizeLine := Nat.le_trans hf.len (by rw [sizeLine_eq]; exact hn)
    have big : ∀ (a : Addr) (as : List Addr), Reads s.heap (.ref a) d as → d.hasDict = false → wpAny (model X.prog X.w) X.A (call (.builtin "repr") [.ref a]) (EP X pins σ Q) X.xe s := fun a as hR nd => by
      refine repr_of_reads' hR hf.sh (PyData.noDict_hsm nd) hg (by omega) (fun _ _ e => e) (fun h' u tk hk => ?_) hsz
      exact ⟨.str d.shown, H, I.kept (t' := tk) hk, ⟨u, rfl⟩, q⟩
    have nd := hr.noDict
    obtain ⟨as, hR⟩ := reads_of I hr rx
    have fin : ∀ {x : Str}, x = d.shown → EP X pins σ Q (.str x s.toks) { s with toks := s.toks + 1 } := fun {x} e => by
      rw [e]
      exact ⟨.str d.shown, H, I.tok _, ⟨_, rfl⟩, q⟩
    cases hr with
    | non =>
      cases rx
      exact PySem.P.repr_of_none (fin (by rw [PyData.shown_none]))
    | bl b =>
      cases rx
      exact PySem.P.repr_of_bool (fin (by rw [PyData.shown_bool]))
    | int i =>
      obtain ⟨t, rfl⟩ := rx
      have z := hf.sh
      simp only [PyData.showable, decide_eq_true_eq] at z
      exact PySem.P.repr_of_int z (fin (by rw [PyData.shown_int]))
    | str x =>
      obtain ⟨t, rfl⟩ := rx
      rw [PyData.shown_str] at hsz
      exact PySem.P.repr_of_str (fin (by rw [PyData.shown_str])) hsz
    | lst h r =>
      cases rx
      exact big _ as hR nd
    | tup h r =>
      cases rx
      exact big _ as hR nd
end
/-! ### a list is written -/
/-- no list within -/
def noL : PyData → Bool
  | .list _ => false
  | .tuple ds => noLA ds
  | _ => true
where
  noLA : List PyData → Bool
  | [] => true
  | d :: ds => noL d && noLA ds
mutual
theorem rep_wr {K : PySem.W.Frag} {H : Hp} {l : Addr} {ys : List V} {o : HO} (h : H l = some (.lst ys)) : ∀ {v : V} {d : PyData}, Rep K H v d → noL d = true → Rep K (upd H l o) v d
  | _, _, .non, _ => .non
  | _, _, .bl b, _ => .bl b
  | _, _, .int i, _ => .int i
  | _, _, .str x, _ => .str x
  | _, _, .lst _ _, n => by simp [noL] at n
  | _, _, .tup (a := a) hs r, n => by
    refine .tup ?_ (rep_wrA h r (by simpa [noL] using n))
    rcases hs with (q | ⟨o', q⟩) | q
    · exact .inl (.inl (by rw [upd_ne (fun z => by rw [z, h] at q; cases q)]; exact q))
    · exact .inl (.inr ⟨o', by rw [upd_ne (fun z => by rw [z, h] at q; cases q)]; exact q⟩)
    · exact .inr q
theorem rep_wrA {K : PySem.W.Frag} {H : Hp} {l : Addr} {ys : List V} {o : HO} (h : H l = some (.lst ys)) : ∀ {vs : List V} {ds : List PyData}, RepAll K H vs ds → noL.noLA ds = true → RepAll K (upd H l o) vs ds
  | _, _, .nil, _ => .nil
  | _, _, .cons hd r, n => by
    simp only [noL.noLA, Bool.and_eq_true] at n
    exact .cons (rep_wr h hd n.1) (rep_wrA h r n.2)
end
theorem noLA_all : ∀ {ds : List PyData}, (∀ d ∈ ds, noL d = true) → noL.noLA ds = true
  | [], _ => rfl
  | d :: ds, h => by
    simp only [noL.noLA, Bool.and_eq_true]
    exact ⟨h d List.mem_cons_self, noLA_all fun x hx => h x (List.mem_cons_of_mem _ hx)⟩
theorem IT.noL {k : Nat} {d : PyData} (h : IT k d) : BK.noL d = true := by
  induction h with
  | int k i => rfl
  | tup h ih =>
    show noL.noLA _ = true
    exact noLA_all ih
theorem rep_wrote {K : PySem.W.Frag} {H : Hp} {l : Addr} {ys zs : List V} {o : HO} {ts : List PyData} (h : H l = some (.lst ys)) (r : RepAll K H zs ts) (n : ∀ d ∈ ts, ∃ k, IT k d) : RepAll K (upd H l o) zs ts :=
  rep_wrA h r (noLA_all fun d hd => (n d hd).elim fun _ z => z.noL)
end BK
set_option Elab.async false
set_option linter.all false
set_option maxRecDepth 100000
set_option maxHeartbeats 4000000
/-! KitQ: tests with and. -/
namespace BK
open PySem PySem.Spec PyProof.Rows L2
/-- a and b and ..., as a test -/
structure PN (X : Cx) (pos : Pos) (es : List Expr) (t : TT) : Prop where
  run : ∀ (whole : Sem Value) (pins : List (Addr × Obj)) (s : Shared) (σ : L2.St) (H : Hp) (Q : Bool → Hp → Prop), Inv X pins σ H s → t σ H Q →
    wpAny (model X.prog X.w) X.A (isTrue (.BoolOp .And es pos) X.env whole) (fun d s' => ∃ H', Inv X pins σ H' s' ∧ Q d H') X.xe s
def tAnd0 : TT := fun _ H Q => Q true H
def tAnd1 (t u : TT) : TT := fun σ H Q => t σ H fun c H1 => if c = true then u σ H1 Q else Q false H1
section
variable {X : Cx} {pos : Pos} {e : Expr} {es : List Expr} {t u : TT}
theorem pn_nil : PN X pos [] tAnd0 := ⟨fun _ _ _ _ H _ I h => isTrue_and_nil ⟨H, I, h⟩⟩
theorem pn_cons (a : PT X e t) (r : PN X pos es u) : PN X pos (e :: es) (tAnd1 t u) := by
  constructor
  intro whole pins s σ H Q I h
  apply isTrue_and
  apply thn (a.run pins s σ H _ I h)
  rintro c s1 ⟨H1, I1, q⟩
  cases c with
  | false => exact ⟨H1, I1, q⟩
  | true => exact r.run whole pins s1 σ H1 Q I1 q
theorem pt_and (o : PN X pos es t) : PT X (.BoolOp .And es pos) t := ⟨fun pins s σ H Q I h => o.run _ pins s σ H Q I h⟩
end
end BK
set_option Elab.async false
set_option linter.all false
set_option maxRecDepth 100000
set_option maxHeartbeats 4000000
/-! KM2: sums added; forms told by their rows. -/
namespace BK
open PySem PySem.Spec PyProof.Rows L2
/-! ### a row at which all is least -/
theorem attained {ss : List Nat} (h1 : ∀ s ∈ ss, 1 ≤ s) : ∀ {ts : List Trm} {k : Nat}, TmOk ss k ts → ∃ r, RowOk ss r ∧ wt r ts = mnS ts
  | [], _, _ => ⟨_, row_zero h1, rfl⟩
  | t :: ts, k, ⟨a, ⟨s, b1, b2, b3⟩, c⟩ => by
    obtain ⟨r, hr, e⟩ := attained h1 c
    obtain ⟨v, lv, ev⟩ := mem_getD (mnL_mem (ne_of_len b2 b3))
    have lc : t.1 < r.length := by rw [hr.1]; exact (List.getElem?_eq_some_iff.mp b1).1
    refine ⟨r.set t.1 v, row_set hr b1 (by omega), ?_⟩
    have z1 := wt_set (v := v) lc c
    have z2 := at1_none (v := v) (c := t.1) (Nat.lt_succ_self _) c
    have z3 := at1_none (v := r.getD t.1 0) (c := t.1) (Nat.lt_succ_self _) c
    have e1 : (r.set t.1 v).getD t.1 0 = v := by rw [List.getD_eq_getElem?_getD, List.getElem?_set_self lc]; rfl
    have es : mnS (t :: ts) = mnL t.2 + mnS ts := by simp [mnS]
    rw [wt_cons, es, e1, ev]
    omega
/-- forms are told by what their rows weigh -/
theorem form_eq {ss : List Nat} (h1 : ∀ s ∈ ss, 1 ≤ s) {ts us : List Trm} {b c : Int} (ok : TmOk ss 0 ts) (ok' : TmOk ss 0 us) (eq : ∀ r, RowOk ss r → wt r ts - b = wt r us - c) : formOf ts b = formOf us c := by
  obtain ⟨r1, q1, e1⟩ := attained h1 ok
  obtain ⟨r2, q2, e2⟩ := attained h1 ok'
  have a1 := wt_ge q1 ok'
  have a2 := wt_ge q2 ok
  have b1 := eq r1 q1
  have b2 := eq r2 q2
  have em : b - mnS ts = c - mnS us := by omega
  by_cases g : b - mnS ts > 0
  · refine one_form h1 (form_ok b ok) (form_ok c ok') fun r hr => ?_
    have f1 := wt_form hr ok
    have f2 := wt_form hr ok'
    have := eq r hr
    unfold formOf
    rw [if_pos g, if_pos (by omega)]
    show wt r (formK ts) - (b - mnS ts) = wt r (formK us) - (c - mnS us)
    omega
  · unfold formOf
    rw [if_neg g, if_neg (by omega)]
/-! ### weights by choice, as a dict has them -/
def zadd : List Int → List Int → List Int
  | x :: xs, y :: ys => (x + y) :: zadd xs ys
  | _, _ => []
theorem zadd_len : ∀ {xs ys : List Int}, xs.length = ys.length → (zadd xs ys).length = xs.length
  | [], [], _ => rfl
  | [], _ :: _, h => by simp at h
  | _ :: _, [], h => by simp at h
  | x :: xs, y :: ys, h => by simp [zadd, zadd_len (xs := xs) (ys := ys) (by simpa using h)]
theorem zadd_at : ∀ {xs ys : List Int} (v : Nat), xs.length = ys.length → (zadd xs ys).getD v 0 = xs.getD v 0 + ys.getD v 0
  | [], [], _, _ => rfl
  | [], _ :: _, _, h => by simp at h
  | _ :: _, [], _, h => by simp at h
  | x :: xs, y :: ys, 0, _ => rfl
  | x :: xs, y :: ys, v + 1, h => by
    have := zadd_at (xs := xs) (ys := ys) v (by simpa using h)
    simp only [zadd, List.getD_cons_succ]
    exact this
theorem zadd_snoc {x y : Int} : ∀ {xs ys : List Int}, xs.length = ys.length → zadd (xs ++ [x]) (ys ++ [y]) = zadd xs ys ++ [x + y]
  | [], [], _ => rfl
  | [], _ :: _, h => by simp at h
  | _ :: _, [], h => by simp at h
  | a :: xs, b :: ys, h => by
    simp only [List.cons_append, zadd, zadd_snoc (xs := xs) (ys := ys) (by simpa using h)]
def look (c : Nat) : List Trm → Option (List Int)
  | [] => none
  | t :: ts => if t.1 = c then some t.2 else look c ts
def repl (c : Nat) (w : List Int) (ts : List Trm) : List Trm := ts.map fun t => if t.1 = c then (t.1, w) else t
def addT (wl : List Trm) (t : Trm) : List Trm := match look t.1 wl with
  | some u => repl t.1 (zadd u t.2) wl
  | none => wl ++ [t]
structure WlOk (ss : List Nat) (wl : List Trm) : Prop where
  nd : (wl.map (·.1)).Nodup
  all : ∀ t ∈ wl, ∃ s, ss[t.1]? = some s ∧ t.2.length = s ∧ 1 ≤ s
theorem look_none {c : Nat} : ∀ {ts : List Trm}, look c ts = none → c ∉ ts.map (·.1)
  | [], _ => by simp
  | t :: ts, h => by
    unfold look at h
    split at h
    · cases h
    · rename_i ne
      rw [List.map_cons, List.mem_cons]
      rintro (z | z)
      · exact ne z.symm
      · exact look_none h z
theorem look_mem {c : Nat} {w : List Int} : ∀ {ts : List Trm}, look c ts = some w → (c, w) ∈ ts
  | [], h => by cases h
  | t :: ts, h => by
    unfold look at h
    split at h
    · rename_i e
      cases h
      subst e
      exact List.mem_cons_self
    · exact List.mem_cons_of_mem _ (look_mem h)
theorem mem_look {t : Trm} : ∀ {ts : List Trm}, (ts.map (·.1)).Nodup → t ∈ ts → look t.1 ts = some t.2
  | [], _, h => by cases h
  | u :: ts, nd, h => by
    rw [List.map_cons, List.nodup_cons] at nd
    unfold look
    rcases List.mem_cons.mp h with e | e
    · subst e
      rw [if_pos rfl]
    · have : u.1 ≠ t.1 := fun z => nd.1 (List.mem_map.mpr ⟨t, e, z.symm⟩)
      rw [if_neg this]
      exact mem_look nd.2 e
theorem repl_keys (c : Nat) (w : List Int) (ts : List Trm) : (repl c w ts).map (·.1) = ts.map (·.1) := by
  unfold repl
  rw [List.map_map]
  refine List.map_congr_left fun t _ => ?_
  show (if t.1 = c then (t.1, w) else t).1 = t.1
  split <;> rfl
theorem repl_absent {c : Nat} {w : List Int} : ∀ {ts : List Trm}, c ∉ ts.map (·.1) → repl c w ts = ts
  | [], _ => rfl
  | t :: ts, h => by
    rw [List.map_cons, List.mem_cons, not_or] at h
    show (if t.1 = c then (t.1, w) else t) :: repl c w ts = _
    rw [if_neg (fun z => h.1 z.symm), repl_absent h.2]
theorem wt_repl {r : List Nat} {c : Nat} {u w : List Int} : ∀ {ts : List Trm}, (ts.map (·.1)).Nodup → look c ts = some u → wt r (repl c w ts) = wt r ts - u.getD (r.getD c 0) 0 + w.getD (r.getD c 0) 0
  | [], _, h => by cases h
  | t :: ts, nd, h => by
    rw [List.map_cons, List.nodup_cons] at nd
    unfold look at h
    show wt r ((if t.1 = c then (t.1, w) else t) :: repl c w ts) = _
    split at h
    · rename_i e
      cases h
      subst e
      rw [if_pos rfl, repl_absent nd.1, wt_cons, wt_cons]
      show w.getD (r.getD t.1 0) 0 + _ = _
      omega
    · rename_i ne
      have ih := wt_repl (r := r) (w := w) nd.2 h
      rw [if_neg ne, wt_cons, wt_cons, ih]
      omega
theorem wt_append (r : List Nat) (ts us : List Trm) : wt r (ts ++ us) = wt r ts + wt r us := by
  induction ts with
  | nil => rw [List.nil_append, wt_nil]; omega
  | cons t ts ih => rw [List.cons_append, wt_cons, wt_cons, ih]; omega
theorem addT_ok {ss : List Nat} {wl : List Trm} {t : Trm} (h : WlOk ss wl) (ht : ∃ s, ss[t.1]? = some s ∧ t.2.length = s ∧ 1 ≤ s) : WlOk ss (addT wl t) ∧ ∀ r, wt r (addT wl t) = wt r wl + t.2.getD (r.getD t.1 0) 0 := by
  obtain ⟨s, h1, h2, h3⟩ := ht
  unfold addT
  cases e : look t.1 wl with
  | none =>
    have na := look_none e
    refine ⟨⟨?_, fun u hu => ?_⟩, fun r => ?_⟩
    · show ((wl ++ [t]).map (·.1)).Nodup
      rw [List.map_append, List.nodup_append]
      refine ⟨h.nd, by simp, fun a ha b hb => ?_⟩
      simp only [List.map_cons, List.map_nil, List.mem_cons, List.not_mem_nil, or_false] at hb
      intro z
      rw [z, hb] at ha
      exact na ha
    · rcases List.mem_append.mp hu with z | z
      · exact h.all u z
      · rw [List.mem_singleton.mp z]
        exact ⟨s, h1, h2, h3⟩
    · show wt r (wl ++ [t]) = _
      rw [wt_append, wt_cons, wt_nil]
      omega
  | some u =>
    obtain ⟨s', k1, k2, k3⟩ := h.all _ (look_mem e)
    have k1 : ss[t.1]? = some s' := k1
    have k2 : u.length = s' := k2
    rw [h1] at k1
    cases k1
    have el : u.length = t.2.length := by omega
    refine ⟨⟨?_, fun x hx => ?_⟩, fun r => ?_⟩
    · show ((repl t.1 (zadd u t.2) wl).map (·.1)).Nodup
      rw [repl_keys]
      exact h.nd
    · obtain ⟨y, hy, rfl⟩ := List.mem_map.mp (show x ∈ wl.map _ from hx)
      split
      · rename_i ey
        rw [ey]
        exact ⟨s, h1, by show (zadd u t.2).length = s; rw [zadd_len el]; omega, h3⟩
      · exact h.all y hy
    · show wt r (repl t.1 (zadd u t.2) wl) = _
      rw [wt_repl h.nd e, zadd_at _ el]
      omega
theorem addS_ok {ss : List Nat} : ∀ {ts wl : List Trm}, WlOk ss wl → (∀ t ∈ ts, ∃ s, ss[t.1]? = some s ∧ t.2.length = s ∧ 1 ≤ s) → WlOk ss (ts.foldl addT wl) ∧ ∀ r, wt r (ts.foldl addT wl) = wt r wl + wt r ts
  | [], wl, h, _ => ⟨h, fun r => by rw [wt_nil, List.foldl_nil]; omega⟩
  | t :: ts, wl, h, ht => by
    obtain ⟨h1, h2⟩ := addT_ok h (ht t List.mem_cons_self)
    obtain ⟨h3, h4⟩ := addS_ok h1 fun u hu => ht u (List.mem_cons_of_mem _ hu)
    exact ⟨h3, fun r => by rw [List.foldl_cons, h4 r, h2 r, wt_cons]; omega⟩
def addA (sums : List (List Trm × Int)) : List Trm := sums.foldl (fun wl s => s.1.foldl addT wl) []
theorem addA_snoc (sums : List (List Trm × Int)) (s : List Trm × Int) : addA (sums ++ [s]) = s.1.foldl addT (addA sums) := by
  unfold addA
  rw [List.foldl_append]
  rfl
def wts (r : List Nat) (sums : List (List Trm × Int)) : Int := (sums.map fun s => wt r s.1).sum
def bds (sums : List (List Trm × Int)) : Int := (sums.map fun s => s.2).sum
theorem TmOk.each {ss : List Nat} {ts : List Trm} {k : Nat} (h : TmOk ss k ts) : ∀ t ∈ ts, ∃ s, ss[t.1]? = some s ∧ t.2.length = s ∧ 1 ≤ s := fun t ht => (h.lt ht).2
theorem addA_ok {ss : List Nat} {sums : List (List Trm × Int)} (h : ∀ s ∈ sums, TmOk ss 0 s.1) : ∀ n, n ≤ sums.length → WlOk ss (addA (sums.take n)) ∧ ∀ r, wt r (addA (sums.take n)) = wts r (sums.take n) := by
  intro n
  induction n with
  | zero => exact fun _ => ⟨⟨by simp [addA], fun t ht => by cases ht⟩, fun r => rfl⟩
  | succ n ih =>
    intro hn
    obtain ⟨h1, h2⟩ := ih (by omega)
    have hs : sums[n]? = some sums[n] := List.getElem?_eq_getElem hn
    have ho := h sums[n] (List.getElem_mem hn)
    obtain ⟨h3, h4⟩ := addS_ok h1 ho.each
    rw [take_snoc hs, addA_snoc]
    refine ⟨h3, fun r => ?_⟩
    rw [h4 r, h2 r]
    unfold wts
    rw [List.map_append, List.sum_append]
    simp
theorem perm_sum {a b : List Int} (p : a.Perm b) : a.sum = b.sum := by
  induction p with
  | nil => rfl
  | cons x _ ih => rw [List.sum_cons, List.sum_cons, ih]
  | swap x y l => simp only [List.sum_cons]; omega
  | trans _ _ i1 i2 => rw [i1, i2]
/-- in the order of the choices -/
def inOrder (wl : List Trm) (ys : List Nat) : List Trm := ys.map fun c => (c, (look c wl).getD [])
theorem inOrder_ok {ss : List Nat} {wl : List Trm} {ys : List Nat} (h : WlOk ss wl) (p : ys.Perm (wl.map (·.1))) (s : ys.Pairwise (· ≤ ·)) : TmOk ss 0 (inOrder wl ys) ∧ ∀ r, wt r (inOrder wl ys) = wt r wl := by
  have e : (wl.map (·.1)).map (fun c => (c, (look c wl).getD [])) = wl := by
    rw [List.map_map]
    have : ∀ t ∈ wl, ((fun c => (c, (look c wl).getD [])) ∘ fun t : Trm => t.1) t = t := fun t ht => by
      show (t.1, (look t.1 wl).getD []) = t
      rw [mem_look h.nd ht]
      rfl
    rw [List.map_congr_left this]
    simp
  have pm : (inOrder wl ys).Perm wl := by
    have := p.map (fun c => (c, (look c wl).getD []))
    rw [e] at this
    exact this
  have nd : ys.Nodup := p.nodup_iff.mpr h.nd
  constructor
  · have each : ∀ c ∈ ys, ∃ s, ss[c]? = some s ∧ ((look c wl).getD []).length = s ∧ 1 ≤ s := fun c hc => by
      have : (c, (look c wl).getD []) ∈ inOrder wl ys := List.mem_map.mpr ⟨c, hc, rfl⟩
      exact h.all _ (pm.mem_iff.mp this)
    have go : ∀ (zs : List Nat) (k : Nat), zs.Pairwise (· ≤ ·) → zs.Nodup → (∀ c ∈ zs, k ≤ c) → (∀ c ∈ zs, ∃ s, ss[c]? = some s ∧ ((look c wl).getD []).length = s ∧ 1 ≤ s) → TmOk ss k (zs.map fun c => (c, (look c wl).getD [])) := by
      intro zs
      induction zs with
      | nil => exact fun _ _ _ _ _ => True.intro
      | cons c zs ih =>
        intro k pw nd lo al
        rw [List.pairwise_cons] at pw
        rw [List.nodup_cons] at nd
        refine ⟨lo c List.mem_cons_self, al c List.mem_cons_self, ih (c + 1) pw.2 nd.2 (fun d hd => ?_) fun d hd => al d (List.mem_cons_of_mem _ hd)⟩
        have a := pw.1 d hd
        have b : c ≠ d := fun z => nd.1 (by rw [z]; exact hd)
        omega
    exact go ys 0 s nd (fun _ _ => Nat.zero_le _) each
  · intro r
    unfold wt
    exact perm_sum (pm.map _)
/-- a sum of sums, whatever the order of its choices was -/
theorem added_eq {ss : List Nat} (h1 : ∀ s ∈ ss, 1 ≤ s) {sums : List (List Trm × Int)} (h : ∀ s ∈ sums, TmOk ss 0 s.1) {ys : List Nat} (p : ys.Perm ((addA sums).map (·.1))) (s : ys.Pairwise (· ≤ ·)) {us : List Trm} {c : Int} (ok : TmOk ss 0 us) (eq : ∀ r, RowOk ss r → wts r sums - bds sums = wt r us - c) :
    formOf (inOrder (addA sums) ys) (bds sums) = formOf us c := by
  obtain ⟨w, e⟩ := addA_ok h sums.length (Nat.le_refl _)
  rw [List.take_length] at w e
  obtain ⟨t, e2⟩ := inOrder_ok w p s
  refine form_eq h1 t ok fun r hr => ?_
  rw [e2 r, e r]
  exact eq r hr
end BK
set_option Elab.async false
set_option linter.all false
set_option maxRecDepth 100000
set_option maxHeartbeats 4000000
/-! KitI: comprehensions and loops over what has so many turns; dicts of weights. -/
namespace BK
open PySem PySem.Spec PyProof.Rows L2 LamX
section
variable {J : It} {g : TG} {tt : TT} {te : TE} {tb : TS} {vs : List Nat} {σ : L2.St} {H H1 : Hp} {D : Addr} {Qd : Hp → Prop} {E : Ends}
theorem lc_n (N : Nat) (Pv : Nat → Hp → Prop) (h0 : Pv 0 (upd H1 D (HO.lst []))) (hgo : ∀ i H, i < N → Pv i H → J.go i H) (hst : ∀ H, Pv N H → J.stop N H)
    (hs : ∀ i x H H', i < N → Pv i H → J.yld i H x H' → g x (wipe σ vs) H' fun σ2 H2 => wipe σ2 vs = wipe σ vs ∧ tt σ2 H2 fun b H3 => if b = true then te σ2 H3 fun y H4 => ∃ acc, H4 D = some (HO.lst acc) ∧ acc.length < sizeLine ∧ Pv (i + 1) (upd H4 D (HO.lst (acc ++ [y]))) else Pv (i + 1) H3)
    (hd : ∀ H, Pv N H → Qd H) : ∃ W : Nat → Nat → Hp → Prop, (∃ m, W 0 m (upd H1 D (HO.lst []))) ∧ ∀ (i m : Nat) (H : Hp), W i m H → J.stop i H ∧ Qd H ∨ J.go i H ∧ ∃ Nx : Hp → Prop, (∀ H', Nx H' → ∃ m', m' < m ∧ W (i + 1) m' H') ∧ ∀ x H', J.yld i H x H' →
      g x (wipe σ vs) H' fun σ2 H2 => wipe σ2 vs = wipe σ vs ∧ tt σ2 H2 fun b H3 => if b = true then te σ2 H3 fun y H4 => ∃ acc, H4 D = some (HO.lst acc) ∧ acc.length < sizeLine ∧ Nx (upd H4 D (HO.lst (acc ++ [y]))) else Nx H3 := by
  refine ⟨fun i m H => i ≤ N ∧ m = N - i ∧ Pv i H, ⟨_, Nat.zero_le _, rfl, h0⟩, ?_⟩
  rintro i m H ⟨le, rfl, pv⟩
  by_cases e : i = N
  · subst e
    exact .inl ⟨hst H pv, hd H pv⟩
  · have lt : i < N := by omega
    exact .inr ⟨hgo i H lt pv, Pv (i + 1), fun H' h => ⟨_, by omega, by omega, rfl, h⟩, fun x H' y => hs i x H H' lt pv y⟩
theorem lc_zipT {K : PySem.W.Frag} {a b : Addr} {xs ys : List V} (hl : xs.length = ys.length) (Pv : Nat → Hp → Prop) (h0 : Pv 0 (upd H1 D (HO.lst []))) (hq : ∀ i H, Pv i H → SqT K H a xs ∧ SqT K H b ys)
    (hs : ∀ i x y U H, xs[i]? = some x → ys[i]? = some y → Pv i H → H U = none → g (.ref U) (wipe σ vs) (upd H U (.tup [x, y])) fun σ2 H2 => wipe σ2 vs = wipe σ vs ∧ tt σ2 H2 fun b H3 => if b = true then te σ2 H3 fun y H4 => ∃ acc, H4 D = some (HO.lst acc) ∧ acc.length < sizeLine ∧ Pv (i + 1) (upd H4 D (HO.lst (acc ++ [y]))) else Pv (i + 1) H3)
    (hd : ∀ H, Pv xs.length H → Qd H) : ∃ W : Nat → Nat → Hp → Prop, (∃ m, W 0 m (upd H1 D (HO.lst []))) ∧ ∀ (i m : Nat) (H : Hp), W i m H → (RZ.ItzT K a b).stop i H ∧ Qd H ∨ (RZ.ItzT K a b).go i H ∧ ∃ Nx : Hp → Prop, (∀ H', Nx H' → ∃ m', m' < m ∧ W (i + 1) m' H') ∧ ∀ x H', (RZ.ItzT K a b).yld i H x H' →
      g x (wipe σ vs) H' fun σ2 H2 => wipe σ2 vs = wipe σ vs ∧ tt σ2 H2 fun b H3 => if b = true then te σ2 H3 fun y H4 => ∃ acc, H4 D = some (HO.lst acc) ∧ acc.length < sizeLine ∧ Nx (upd H4 D (HO.lst (acc ++ [y]))) else Nx H3 := by
  refine lc_n xs.length Pv h0 (fun i H hi p => ?_) (fun H p => ⟨xs, ys, (hq _ H p).1, (hq _ H p).2, .inl (Nat.le_refl _)⟩) (fun i x H H' hi p y => ?_) hd
  · exact ⟨xs, ys, xs[i], ys[i], (hq i H p).1, (hq i H p).2, by simp [hi], by simp [hl ▸ hi]⟩
  · obtain ⟨U, x', y', rfl, hT, rfl, f1, f2⟩ := y
    exact hs i x' y' U H (f1 xs (hq i H p).1) (f2 ys (hq i H p).2) p hT
theorem lc_enumL {K : PySem.W.Frag} {a : Addr} {xs : List V} (Pv : Nat → Hp → Prop) (h0 : Pv 0 (upd H1 D (HO.lst []))) (hq : ∀ i H, i ≤ xs.length → Pv i H → SqL K H a xs)
    (hs : ∀ (i : Nat) x U H, xs[i]? = some x → Pv i H → H U = none → g (.ref U) (wipe σ vs) (upd H U (.tup [.int (i : Nat), x])) fun σ2 H2 => wipe σ2 vs = wipe σ vs ∧ tt σ2 H2 fun b H3 => if b = true then te σ2 H3 fun y H4 => ∃ acc, H4 D = some (HO.lst acc) ∧ acc.length < sizeLine ∧ Pv (i + 1) (upd H4 D (HO.lst (acc ++ [y]))) else Pv (i + 1) H3)
    (hd : ∀ H, Pv xs.length H → Qd H) : ∃ W : Nat → Nat → Hp → Prop, (∃ m, W 0 m (upd H1 D (HO.lst []))) ∧ ∀ (i m : Nat) (H : Hp), W i m H → (Ite K a).stop i H ∧ Qd H ∨ (Ite K a).go i H ∧ ∃ Nx : Hp → Prop, (∀ H', Nx H' → ∃ m', m' < m ∧ W (i + 1) m' H') ∧ ∀ x H', (Ite K a).yld i H x H' →
      g x (wipe σ vs) H' fun σ2 H2 => wipe σ2 vs = wipe σ vs ∧ tt σ2 H2 fun b H3 => if b = true then te σ2 H3 fun y H4 => ∃ acc, H4 D = some (HO.lst acc) ∧ acc.length < sizeLine ∧ Nx (upd H4 D (HO.lst (acc ++ [y]))) else Nx H3 := by
  refine lc_n xs.length Pv h0 (fun i H hi p => ?_) (fun H p => ⟨xs, hq _ H (Nat.le_refl _) p, Nat.le_refl _⟩) (fun i x H H' hi p y => ?_) hd
  · exact ⟨xs, xs[i], hq i H (Nat.le_of_lt hi) p, by simp [hi]⟩
  · obtain ⟨U, x', rfl, hT, rfl, f1⟩ := y
    exact hs i x' U H (f1 xs (hq i H (Nat.le_of_lt hi) p)) p hT
theorem for_enumL {K : PySem.W.Frag} {a : Addr} {xs : List V} (Pv : Nat → L2.St → Hp → Prop) (h0 : Pv 0 σ H) (hl : ∀ i σ H, i ≤ xs.length → Pv i σ H → SqL K H a xs)
    (hs : ∀ (i : Nat) x σ H T, xs[i]? = some x → Pv i σ H → H T = none → g (.ref T) σ (upd H T (.tup [.int (i : Nat), x])) fun σ2 H2 => tb { E with nx := Pv (i + 1), ct := Pv (i + 1), bk := E.nx } σ2 H2) (hd : ∀ σ H, Pv xs.length σ H → E.nx σ H) :
    ∃ W : Nat → Nat → L2.St → Hp → Prop, (∃ m, W 0 m σ H) ∧ ∀ i m σ H, W i m σ H →
      ((Ite K a).stop i H ∧ E.nx σ H) ∨ ((Ite K a).go i H ∧ ∃ N : L2.St → Hp → Prop, (∀ σ' H', N σ' H' → ∃ m', m' < m ∧ W (i + 1) m' σ' H') ∧ ∀ x H', (Ite K a).yld i H x H' → g x σ H' fun σ2 H2 => tb { E with nx := N, ct := N, bk := E.nx } σ2 H2) := by
  refine ⟨fun i m σ H => i ≤ xs.length ∧ m = xs.length - i ∧ Pv i σ H, ⟨_, Nat.zero_le _, rfl, h0⟩, ?_⟩
  rintro i m σ H ⟨le, rfl, pv⟩
  have hq := hl i σ H le pv
  by_cases e : i = xs.length
  · subst e
    exact .inl ⟨⟨xs, hq, Nat.le_refl _⟩, hd σ H pv⟩
  · have lt : i < xs.length := by omega
    refine .inr ⟨⟨xs, xs[i], hq, by simp [lt]⟩, Pv (i + 1), fun σ' H' h => ⟨_, by omega, by omega, rfl, h⟩, ?_⟩
    rintro x H' ⟨T, y, rfl, hT, rfl, hy⟩
    exact hs i y σ H T (hy xs hq) pv hT
end
/-! ### a dict is written -/
mutual
theorem rep_wrD {K : PySem.W.Frag} {H : Hp} {l : Addr} {ks : List (Key × V)} {o : HO} (h : H l = some (.dK ks)) : ∀ {v : V} {d : PyData}, Rep K H v d → Rep K (upd H l o) v d
  | _, _, .non => .non
  | _, _, .bl b => .bl b
  | _, _, .int i => .int i
  | _, _, .str x => .str x
  | _, _, .lst (a := a) hs r => by
    refine .lst ?_ (rep_wrDA h r)
    rcases hs with (q | ⟨o', q⟩) | q
    · exact .inl (.inl (by rw [upd_ne (fun z => by rw [z, h] at q; cases q)]; exact q))
    · exact .inl (.inr ⟨o', by rw [upd_ne (fun z => by rw [z, h] at q; cases q)]; exact q⟩)
    · exact .inr q
  | _, _, .tup (a := a) hs r => by
    refine .tup ?_ (rep_wrDA h r)
    rcases hs with (q | ⟨o', q⟩) | q
    · exact .inl (.inl (by rw [upd_ne (fun z => by rw [z, h] at q; cases q)]; exact q))
    · exact .inl (.inr ⟨o', by rw [upd_ne (fun z => by rw [z, h] at q; cases q)]; exact q⟩)
    · exact .inr q
theorem rep_wrDA {K : PySem.W.Frag} {H : Hp} {l : Addr} {ks : List (Key × V)} {o : HO} (h : H l = some (.dK ks)) : ∀ {vs : List V} {ds : List PyData}, RepAll K H vs ds → RepAll K (upd H l o) vs ds
  | _, _, .nil => .nil
  | _, _, .cons hd r => .cons (rep_wrD h hd) (rep_wrDA h r)
end
theorem Gq.wroteD {T : List (Addr × Str)} {H H1 : Hp} {p : Addr} {xs : List (Key × V)} {o : HO} (a : Gq T H H1) (n : H p = none) (h : H1 p = some (.dK xs)) : Gq T H (upd H1 p o) := by
  refine ⟨ext_mut a.ext n, fun q hq => ?_⟩
  obtain ⟨ps, h1, h2, h3⟩ := a.tb q hq
  have np : q.1 ≠ p := fun z => by rw [z, h] at h1; cases h1
  refine ⟨ps, by rw [upd_ne np]; exact h1, h2, fun pos cv hc => ?_⟩
  obtain ⟨c, r1, r2⟩ := h3 pos cv hc
  exact ⟨c, r1, by rw [upd_ne (fun z => by rw [z, h] at r2; cases r2)]; exact r2⟩
/-- a dict's pairs are the choices with their weights -/
inductive DWs (K : PySem.W.Frag) (H : Hp) : List (Key × V) → List Trm → Prop
  | nil : DWs K H [] []
  | cons {v : V} {t : Trm} {kvs : List (Key × V)} {wl : List Trm} (h : Rep K H v (dW t.2)) (r : DWs K H kvs wl) : DWs K H ((.inl ((t.1 : Nat) : Int), v) :: kvs) (t :: wl)
section
variable {K : PySem.W.Frag} {H H' : Hp} {kvs : List (Key × V)} {wl : List Trm} {c : Nat}
theorem DWs.mono (f : ∀ {v : V} {d : PyData}, Rep K H v d → Rep K H' v d) : ∀ {kvs : List (Key × V)} {wl : List Trm}, DWs K H kvs wl → DWs K H' kvs wl
  | _, _, .nil => .nil
  | _, _, .cons h r => .cons (f h) (r.mono f)
theorem DWs.length : ∀ {kvs : List (Key × V)} {wl : List Trm}, DWs K H kvs wl → kvs.length = wl.length
  | _, _, .nil => rfl
  | _, _, .cons _ r => by simp [r.length]
theorem DWs.keys : ∀ {kvs : List (Key × V)} {wl : List Trm}, DWs K H kvs wl → kvs.map (·.1) = (wl.map fun t => ((t.1 : Nat) : Int)).map Sum.inl
  | _, _, .nil => rfl
  | _, _, .cons _ r => by simp [r.keys]
theorem key_eq {a b : Nat} : ((.inl ((a : Nat) : Int) : Key) = .inl ((b : Nat) : Int)) ↔ a = b := by
  constructor
  · intro h
    have := Sum.inl.inj h
    omega
  · intro h
    rw [h]
theorem DWs.none : ∀ {kvs : List (Key × V)} {wl : List Trm}, DWs K H kvs wl → look c wl = none → valV kvs (.inl (c : Int)) = none
  | _, _, .nil, _ => rfl
  | _, _, .cons (t := t) _ r, h => by
    unfold look at h
    split at h
    · cases h
    · rename_i ne
      rw [valV_neg (fun z => ne (key_eq.mp z))]
      exact r.none h
theorem DWs.some {w : List Int} : ∀ {kvs : List (Key × V)} {wl : List Trm}, DWs K H kvs wl → look c wl = some w → ∃ v, valV kvs (.inl (c : Int)) = some v ∧ Rep K H v (dW w)
  | _, _, .nil, h => by cases h
  | _, _, .cons (t := t) hr r, h => by
    unfold look at h
    split at h
    · rename_i e
      cases h
      exact ⟨_, valV_pos (key_eq.mpr e), hr⟩
    · rename_i ne
      obtain ⟨v, a, b⟩ := r.some h
      exact ⟨v, by rw [valV_neg (fun z => ne (key_eq.mp z))]; exact a, b⟩
theorem DWs.repl {v : V} {w : List Int} (hv : Rep K H v (dW w)) : ∀ {kvs : List (Key × V)} {wl : List Trm}, DWs K H kvs wl → DWs K H (kvs.map fun kv => if kv.1 = (.inl (c : Int) : Key) then (kv.1, v) else kv) (BK.repl c w wl)
  | _, _, .nil => .nil
  | _, _, .cons (t := t) (v := u) hr r => by
    have ih := DWs.repl hv r
    show DWs K H ((if (.inl ((t.1 : Nat) : Int) : Key) = .inl (c : Int) then (.inl ((t.1 : Nat) : Int), v) else (.inl ((t.1 : Nat) : Int), u)) :: _) ((if t.1 = c then (t.1, w) else t) :: BK.repl c w _)
    by_cases e : t.1 = c
    · rw [if_pos (key_eq.mpr e), if_pos e]
      exact .cons (t := (t.1, w)) hv ih
    · rw [if_neg (fun z => e (key_eq.mp z)), if_neg e]
      exact .cons hr ih
theorem DWs.snoc {v : V} {w : List Int} (hv : Rep K H v (dW w)) : ∀ {kvs : List (Key × V)} {wl : List Trm}, DWs K H kvs wl → DWs K H (kvs ++ [(.inl (c : Int), v)]) (wl ++ [(c, w)])
  | _, _, .nil => .cons (t := (c, w)) hv .nil
  | _, _, .cons hr r => .cons hr (r.snoc hv)
/-- written at a choice -/
theorem DWs.put {v : V} {w : List Int} (hv : Rep K H v (dW w)) (d : DWs K H kvs wl) : DWs K H (putK kvs (.inl (c : Int)) v) (match look c wl with | .some _ => BK.repl c w wl | .none => wl ++ [(c, w)]) := by
  unfold putK
  rw [valV_any]
  cases e : look c wl with
  | none =>
    rw [d.none e]
    exact d.snoc hv
  | some u =>
    obtain ⟨x, hx, _⟩ := d.some e
    rw [hx]
    exact d.repl hv
end
end BK
set_option Elab.async false
set_option linter.all false
set_option maxRecDepth 100000
set_option maxHeartbeats 4000000
/-! KitT: tuples of plain data: t + u, parts of t. -/
namespace BK
open PySem PySem.Spec PyProof.Rows L2 LamX
section
variable {K : PySem.W.Frag} {T : List (Addr × Str)} {H : Hp} {x y v : V} {as bs ds : List PyData} {Q : VK}
theorem repTup (h : Rep K H v (.tuple ds)) : ∃ a xs, v = .ref a ∧ SqT K H a xs ∧ RepAll K H xs ds := by
  cases h with
  | tup hs r => exact ⟨_, _, rfl, hs, r⟩
theorem cat_rep (hx : Rep K H x (.tuple as)) (hy : Rep K H y (.tuple bs)) (hl : as.length + bs.length ≤ 1000000) (tb : Tabs T H)
    (h : ∀ v H', Gq T H H' → Rep K H' v (.tuple (as ++ bs)) → Q v H') : rCatA K x y H Q := by
  obtain ⟨a, xs, rfl, ha, ra⟩ := repTup hx
  obtain ⟨b, ys, rfl, hb, rb⟩ := repTup hy
  refine ⟨a, b, xs, ys, rfl, rfl, ha, hb, by rw [sizeLine_eq, ra.length, rb.length]; omega, fun e => ?_, fun _ e => ?_, fun _ _ p hp => ?_⟩
  · subst e
    have : as = [] := List.eq_nil_of_length_eq_zero ra.length.symm
    subst this
    exact h _ _ (Gq.refl tb) hy
  · subst e
    have : bs = [] := List.eq_nil_of_length_eq_zero rb.length.symm
    subst this
    rw [List.append_nil] at h
    exact h _ _ (Gq.refl tb) hx
  · exact h _ _ ((Gq.refl tb).new hp) (.tup (SqT.of upd_same) ((ra.append rb).ext (ext_new hp)))
theorem rep_take : ∀ {xs : List V} {ds : List PyData} (n : Nat), RepAll K H xs ds → RepAll K H (xs.take n) (ds.take n)
  | _, _, 0, _ => .nil
  | _, _, n + 1, .nil => .nil
  | _, _, n + 1, .cons a r => .cons a (rep_take n r)
theorem rep_drop : ∀ {xs : List V} {ds : List PyData} (n : Nat), RepAll K H xs ds → RepAll K H (xs.drop n) (ds.drop n)
  | _, _, 0, r => r
  | _, _, n + 1, .nil => .nil
  | _, _, n + 1, .cons a r => rep_drop n r
theorem cut_to (xs : List V) {p : Nat} (h : p ≤ xs.length) : cutV xs none (some (p : Int)) = xs.take p := by
  unfold cutV
  rw [HT.sIx_none, HT.sIx_nat, Nat.min_eq_left h]
  simp
theorem cut_from (xs : List V) {p : Nat} (h : p ≤ xs.length) : cutV xs (some (p : Int)) none = xs.drop p := by
  unfold cutV
  rw [HT.sIx_none, HT.sIx_nat, Nat.min_eq_left h]
  exact List.take_of_length_le (by rw [List.length_drop]; exact Nat.le_refl _)
theorem sl_tupK {X : Cx} (hK : X.K = K) : SlR X (rSlT K) := hK ▸ sl_tup
/-- t[:p], p a place of t -/
theorem cut_pre {p : Nat} (hx : Rep K H x (.tuple ds)) (hp : p < ds.length) (tb : Tabs T H) (h : ∀ v H', Gq T H H' → Rep K H' v (.tuple (ds.take p)) → Q v H') : rSlT K x none (some (p : Int)) H Q := by
  obtain ⟨a, xs, rfl, ha, ra⟩ := repTup hx
  have l := ra.length
  refine ⟨a, xs, rfl, ha, fun z => ?_, fun q hq => ?_⟩
  · have := z.2
    rw [HT.sIx_nat] at this
    omega
  · rw [cut_to xs (by omega)]
    exact h _ _ ((Gq.refl tb).new hq) (.tup (SqT.of upd_same) ((rep_take p ra).ext (ext_new hq)))
/-- t[p:], p above 0 -/
theorem cut_suf {p : Nat} (hx : Rep K H x (.tuple ds)) (h0 : 0 < p) (hp : p ≤ ds.length) (tb : Tabs T H) (h : ∀ v H', Gq T H H' → Rep K H' v (.tuple (ds.drop p)) → Q v H') : rSlT K x (some (p : Int)) none H Q := by
  obtain ⟨a, xs, rfl, ha, ra⟩ := repTup hx
  have l := ra.length
  refine ⟨a, xs, rfl, ha, fun z => ?_, fun q hq => ?_⟩
  · have := z.1
    rw [HT.sIx_nat] at this
    omega
  · rw [cut_from xs (by omega)]
    exact h _ _ ((Gq.refl tb).new hq) (.tup (SqT.of upd_same) ((rep_drop p ra).ext (ext_new hq)))
theorem cut_sufN {σ : L2.St} {p : Nat} (hx : Rep K H x (.tuple ds)) (h0 : 0 < p) (hp : p ≤ ds.length) (tb : Tabs T H) (h : ∀ v H', Gq T H H' → Rep K H' v (.tuple (ds.drop p)) → Q v H') : tNoPart σ H fun u H3 => rSlT K x (some (p : Int)) u H3 Q := cut_suf hx h0 hp tb h
end
end BK
set_option Elab.async false
set_option maxRecDepth 100000
open PySem L2
namespace K2
def top (i : Nat) : Stmt := PySem.Challenge.pw_besthours_k69_whole_rounds_of_weeks.main.body.getD i (.Pass ⟨0, 0, 0, 0⟩)
abbrev sInteger : Stmt := top 2
abbrev sWithin : Stmt := top 3
abbrev sFrom : Stmt := top 4
abbrev sRow : Stmt := top 5
abbrev sTooGreat : Stmt := top 10
abbrev sIsBeat : Stmt := top 16
abbrev sNeedBeat : Stmt := top 17
abbrev sNeedTuple : Stmt := top 18
abbrev sNeedBeats : Stmt := top 19
abbrev sNeedRooms : Stmt := top 20
abbrev sWeeksOf : Stmt := top 21
abbrev sWeeksB : Stmt := top 22
abbrev sHeldIn : Stmt := top 23
abbrev sHeld : Stmt := top 24
abbrev sLeave : Stmt := top 25
abbrev sMeets : Stmt := top 26
abbrev sRoundL : Stmt := top 27
abbrev sUnrolled : Stmt := top 28
abbrev sMostAt : Stmt := top 29
abbrev sFits : Stmt := top 30
abbrev sMixed : Stmt := top 32
abbrev sBegin : Stmt := top 33
abbrev sDraw : Stmt := top 34
abbrev sBeatsL : Stmt := top 35
abbrev sLength : Stmt := top 36
abbrev sLike : Stmt := top 37
abbrev sHeard : Stmt := top 38
abbrev sRight : Stmt := top 39
abbrev sLaw : Stmt := top 40
end K2
set_option Elab.async false
set_option linter.all false
set_option maxRecDepth 100000
set_option maxHeartbeats 4000000
/-! KitJ: defs whose code object is known; the built-ins' names. -/
namespace BK
open PySem PySem.Spec PyProof.Rows L2 LamX
structure Bl (mg : Str → Option Value) : Prop where
  isi : mg "isinstance" = none
  int : mg "int" = none
  bool : mg "bool" = none
  tup : mg "tuple" = none
  len : mg "len" = none
  all : mg "all" = none
  sum : mg "sum" = none
  rng : mg "range" = none
  lst : mg "list" = none
  rep : mg "repr" = none
  enu : mg "enumerate" = none
  min : mg "min" = none
  max : mg "max" = none
  zip : mg "zip" = none
theorem sIns : bootBuiltins "isinstance" = some (.builtin "isinstance") := by decide +kernel
theorem sInt : bootBuiltins "int" = some (.type "int") := by decide +kernel
theorem sBool : bootBuiltins "bool" = some (.type "bool") := by decide +kernel
theorem sTup : bootBuiltins "tuple" = some (.type "tuple") := by decide +kernel
theorem sLen : bootBuiltins "len" = some (.builtin "len") := by decide +kernel
theorem sAll : bootBuiltins "all" = some (.builtin "all") := by decide +kernel
theorem sSumB : bootBuiltins "sum" = some (.builtin "sum") := by decide +kernel
theorem sMin : bootBuiltins "min" = some (.builtin "min") := by decide +kernel
theorem sMax : bootBuiltins "max" = some (.builtin "max") := by decide +kernel
theorem sList : bootBuiltins "list" = some (.type "list") := by decide +kernel
theorem sRepr : bootBuiltins "repr" = some (.builtin "repr") := by decide +kernel
/-- a def under its name, its code object's table at P -/
structure AtC (K : PySem.W.Frag) (mg : Str → Option Value) (base : Heap) (x : Str) (st : Stmt) (ps : List Str) (P : Addr) : Prop where
  ex : ∃ (f : Addr) (oc : Value) (od : Option Addr) (kV doc pm : Value) (an : Option Addr) (c : Addr) (ct : Value) (osl : Array (Option Value)),
    K.lookup f = some ⟨oc, od, .func (PySem.W.fnOf x x (defArgs st) (defBody st) (defScope st) .none kV doc pm an (.ref c) ct), osl⟩ ∧ PySem.W.codeIn K (.ref c) x = true ∧ PySem.W.keepIn K (.ref f) = true ∧ mg x = some (.ref f) ∧
    Binds K (PySem.W.fnOf x x (defArgs st) (defBody st) (defScope st) .none kV doc pm an (.ref c) ct) ps [] ∧ LamX.TabB base mg c P
section
variable {P : Program} {w : World} {K : PySem.W.Frag} {mg : Str → Option Value} {base : Heap}
theorem AtC.ok {x : Str} {st : Stmt} {N ps : List Str} {k : Nat} {sp : Sp} {PA : Addr} (a : AtC K mg base x st ps PA) (S : FnScope N ps (defScope st)) (len : ∀ vs H Q E, sp vs H Q E → vs.length = ps.length)
    (hbody : ∀ (f c : Addr) (A : Around) (outer : List Env) (s : Shared) (H : Hp) (vs : List V) (Q : VK) (E : XK), GxR.TabB base mg c PA → Room k (A.deeper (envOfC x (defScope st) s.heap.objs.size f (.ref c))) → sp vs H Q E →
      ∃ t, PSs (cxOf CX0 P w K mg base N x (defScope st) f (.ref c) A outer s H E).nox (defBody st) t ∧ t { nx := fun _ H' => Q .non H', rt := Q } (L2.start N vs) H) : Def P w K mg base CX0 (k + 1) x ps sp := by
  obtain ⟨f, oc, od, kV, doc, pm, an, c, ct, osl, lk, hcd, kp, m, b, tb⟩ := a.ex
  refine ⟨f, _, ⟨len, ?_⟩, m, kp, b, oc, od, osl, lk⟩
  intro A outer s H args us vs Q E hr e0 hb r hsp
  apply LamX.run_ofS lk hcd S hr e0 hb r (len _ _ _ _ hsp)
  intro hr'
  obtain ⟨t, ht, hq⟩ := hbody f c A outer s H vs Q E ⟨tb.code, tb.bm, tb.gP⟩ hr' hsp
  exact ⟨t, ht.nox, hq⟩
end
/-- the name of the code objects of the generators in the def x -/
def qGen (x : Str) (st : Stmt) : Str := (envOfC x (defScope st) 0 0 .none).qual ++ "<genexpr>"
end BK
set_option Elab.async false
set_option linter.all false
set_option maxRecDepth 100000
set_option maxHeartbeats 4000000
/-! Q1: the program: what integers, rows are. -/
namespace K2
open PySem PySem.Spec PyProof.Rows L2 BK LamX
def integer : PyData → Bool
  | .int _ => true
  | _ => false
def within : PyData → Int → Int → Bool
  | .int i, lo, hi => decide (lo ≤ i) && decide (i ≤ hi)
  | _, _, _ => false
def fromI : PyData → Int → Bool
  | .int i, lo => decide (i ≥ lo)
  | _, _ => false
def isRow : PyData → Int → Bool
  | .tuple ds, n => decide ((ds.length : Int) = n)
  | _, _ => false
def spInteger (K : PySem.W.Frag) : Sp := fun vs H Q _ => ∃ (x : V) (d : PyData), vs = [x] ∧ Rep K H x d ∧ Q (.bl (integer d)) H
def spWithin (K : PySem.W.Frag) : Sp := fun vs H Q _ => ∃ (x : V) (d : PyData) (lo hi : Int), vs = [x, .int lo, .int hi] ∧ Rep K H x d ∧ Q (.bl (within d lo hi)) H
def spFrom (K : PySem.W.Frag) : Sp := fun vs H Q _ => ∃ (x : V) (d : PyData) (lo : Int), vs = [x, .int lo] ∧ Rep K H x d ∧ Q (.bl (fromI d lo)) H
def spRow (K : PySem.W.Frag) : Sp := fun vs H Q _ => ∃ (x : V) (d : PyData) (n : Int), vs = [x, .int n] ∧ Rep K H x d ∧ Q (.bl (isRow d n)) H
section
variable {P : Program} {w : World} {K : PySem.W.Frag} {mg : Str → Option Value} {base : Heap}
theorem scInteger : FnScope ["value"] ["value"] (defScope sInteger) := ⟨rfl, rfl, rfl, by decide +kernel, rfl, by decide +kernel, by decide +kernel⟩
theorem def_integer (B : Bl mg) (F : At K mg "is_integer" sInteger ["value"]) : Def P w K mg base CX0 1 "is_integer" ["value"] (spInteger K) := by
  refine F.ok scInteger (fun vs H Q E h => ?_) (fun f cdv A outer s H vs Q E hr h => ?_)
  · obtain ⟨x, d, rfl, _⟩ := h
    rfl
  · obtain ⟨x, d, rfl, hx, q⟩ := h
    refine ⟨_, pss_one (ps_ret (pe_and (pe_callB call_isi (by rfl) B.isi sIns (pa_cons (pv 0) (pa_cons (pe_ty (by rfl) B.int sInt) pa_nil)))
      (pe_one (pe_not (pe_callB call_isi (by rfl) B.isi sIns (pa_cons (pv 0) (pa_cons (pe_ty (by rfl) B.bool sBool) pa_nil))))))), ?_⟩
    refine ⟨_, rfl, _, _, _, _, _, rfl, .ty "int", tyx_of hx, kit_ty (kit_int _), _, rfl, ?_⟩
    cases d with
    | int i => exact ⟨_, rfl, _, _, _, _, _, rfl, .ty "bool", tyx_of hx, kit_ty (kit_bool _), _, rfl, q⟩
    | bool b => exact ⟨_, rfl, _, _, _, _, _, rfl, .ty "bool", tyx_of hx, kit_ty (kit_bool _), _, rfl, q⟩
    | none => exact q
    | str _ => exact q
    | list _ => exact q
    | tuple _ => exact q
    | dict _ => exact q
theorem scWithin : FnScope ["value", "low", "high"] ["value", "low", "high"] (defScope sWithin) := ⟨rfl, rfl, rfl, by decide +kernel, rfl, by decide +kernel, by decide +kernel⟩
theorem def_within (D1 : Def P w K mg base CX0 1 "is_integer" ["value"] (spInteger K)) (F : At K mg "is_within" sWithin ["value", "low", "high"]) : Def P w K mg base CX0 2 "is_within" ["value", "low", "high"] (spWithin K) := by
  refine F.ok scWithin (fun vs H Q E h => ?_) (fun f cdv A outer s H vs Q E hr h => ?_)
  · obtain ⟨x, d, lo, hi, rfl, _⟩ := h
    rfl
  · obtain ⟨x, d, lo, hi, rfl, hx, q⟩ := h
    refine ⟨_, pss_one (ps_ret (pe_and (pe_def D1 hr (by rfl) pass0 (pa_cons (pv 0) pa_nil)) (pe_one (pe_chain op_le op_le (pv 1) (pv 0) (pv 2))))), ?_⟩
    refine ⟨_, rfl, x, d, rfl, hx, _, rfl, ?_⟩
    cases d with
    | int i =>
      cases hx
      refine ⟨_, rfl, _, rfl, _, _, rfl, rfl, _, rfl, ?_⟩
      by_cases h1 : lo ≤ i
      · have e : within (.int i) lo hi = decide (i ≤ hi) := by simp [within, h1]
        rw [if_pos (decide_eq_true h1)]
        rw [e] at q
        exact ⟨_, rfl, _, _, rfl, rfl, q⟩
      · have e : within (.int i) lo hi = false := by simp [within, h1]
        rw [if_neg (by rw [decide_eq_false h1]; decide)]
        rw [e] at q
        exact q
    | _ => exact q
theorem scFrom : FnScope ["value", "low"] ["value", "low"] (defScope sFrom) := ⟨rfl, rfl, rfl, by decide +kernel, rfl, by decide +kernel, by decide +kernel⟩
theorem def_from (D1 : Def P w K mg base CX0 1 "is_integer" ["value"] (spInteger K)) (F : At K mg "is_from" sFrom ["value", "low"]) : Def P w K mg base CX0 2 "is_from" ["value", "low"] (spFrom K) := by
  refine F.ok scFrom (fun vs H Q E h => ?_) (fun f cdv A outer s H vs Q E hr h => ?_)
  · obtain ⟨x, d, lo, rfl, _⟩ := h
    rfl
  · obtain ⟨x, d, lo, rfl, hx, q⟩ := h
    refine ⟨_, pss_one (ps_ret (pe_and (pe_def D1 hr (by rfl) pass0 (pa_cons (pv 0) pa_nil)) (pe_one (pe_cmpR op_ge (pv 0) (pv 1) (nomark _))))), ?_⟩
    refine ⟨_, rfl, x, d, rfl, hx, _, rfl, ?_⟩
    cases d with
    | int i =>
      cases hx
      exact ⟨_, rfl, _, rfl, _, _, rfl, rfl, q⟩
    | _ => exact q
theorem scRow : FnScope ["value", "many"] ["value", "many"] (defScope sRow) := ⟨rfl, rfl, rfl, by decide +kernel, rfl, by decide +kernel, by decide +kernel⟩
theorem def_row (B : Bl mg) (F : At K mg "is_row" sRow ["value", "many"]) : Def P w K mg base CX0 1 "is_row" ["value", "many"] (spRow K) := by
  refine F.ok scRow (fun vs H Q E h => ?_) (fun f cdv A outer s H vs Q E hr h => ?_)
  · obtain ⟨x, d, n, rfl, _⟩ := h
    rfl
  · obtain ⟨x, d, n, rfl, hx, q⟩ := h
    refine ⟨_, pss_one (ps_ret (pe_and (pe_callB call_isi (by rfl) B.isi sIns (pa_cons (pv 0) (pa_cons (pe_ty (by rfl) B.tup sTup) pa_nil)))
      (pe_one (pe_cmpR op_eq (pe_callB call_len_seq (by rfl) B.len sLen (pa_cons (pv 0) pa_nil)) (pv 1) (nomark _))))), ?_⟩
    refine ⟨_, rfl, _, _, _, _, _, rfl, .ty "tuple", tyx_of hx, kit_ty (kit_tuple _), _, rfl, ?_⟩
    cases hT : isT d with
    | false =>
      have e : isRow d n = false := by cases d <;> first | rfl | cases hT
      rw [e] at q
      exact q
    | true =>
      cases hx with
      | tup hs ra =>
        rename_i a xs ds
        have hl := ra.length
        refine ⟨_, rfl, a, _, rfl, .inr hs, _, rfl, rfl, ?_⟩
        have e : decide (V.int (xs.length : Nat) = V.int n) = isRow (.tuple ds) n := by
          show _ = decide ((ds.length : Int) = n)
          rw [← hl]
          by_cases z : ((xs.length : Nat) : Int) = n
          · rw [decide_eq_true z, z]
            exact decide_eq_true rfl
          · rw [decide_eq_false z]
            exact decide_eq_false fun q => z (V.int.inj q)
        rw [← e] at q
        exact q
      | _ => cases hT
end
end K2
set_option Elab.async false
set_option linter.all false
set_option maxRecDepth 100000
set_option maxHeartbeats 4000000
/-! U: small things. -/
namespace K2
open PySem PySem.Spec PyProof.Rows L2 BK LamX
theorem yes {σ : L2.St} {H : Hp} {C : Bool → Hp → Prop} (h : C true H) : tYes σ H C := h
theorem repN {K : PySem.W.Frag} {H : Hp} {v : V} {l : List Nat} (h : Rep K H v (dN l)) : ∃ a, v = .ref a ∧ SqT K H a (l.map fun n => V.int (n : Nat)) := by
  unfold dN at h
  cases h with
  | tup hs ra =>
    refine ⟨_, rfl, ?_⟩
    rename_i a xs
    have : xs = l.map fun n => V.int (n : Nat) := by
      clear hs
      induction l generalizing xs with
      | nil => cases ra; rfl
      | cons n l ih =>
        cases ra with
        | cons h r =>
          cases h
          rw [ih r]
          rfl
    rw [← this]
    exact hs
theorem nat_at {l : List Nat} {i : Nat} {x : V} (h : (l.map fun n => V.int ((n : Nat) : Int))[i]? = some x) : ∃ n, l[i]? = some n ∧ x = .int (n : Nat) := by
  rw [List.getElem?_map] at h
  cases e : l[i]? with
  | none => rw [e] at h; cases h
  | some u => rw [e] at h; exact ⟨u, rfl, (Option.some.inj h).symm⟩
theorem int_at {l : List Int} {i : Nat} {x : V} (h : (l.map V.int)[i]? = some x) : ∃ n, l[i]? = some n ∧ x = .int n := by
  rw [List.getElem?_map] at h
  cases e : l[i]? with
  | none => rw [e] at h; cases h
  | some u => rw [e] at h; exact ⟨u, rfl, (Option.some.inj h).symm⟩
theorem hu64 {k : Nat} {A : Around} (hr : Room k A) : A.units + 64 < cLine := by
  have := hr.un
  omega
theorem nat_all {K : PySem.W.Frag} {H : Hp} : ∀ r : List Nat, RepAll K H (r.map fun s => V.int (s : Nat)) (r.map fun s => .int (s : Nat))
  | [] => .nil
  | s :: r => .cons (.int _) (nat_all r)
theorem rep_row {K : PySem.W.Frag} {H : Hp} {p : Addr} {r : List Nat} (h : H p = some (.tup (r.map fun s => V.int (s : Nat)))) : Rep K H (.ref p) (dN r) := .tup (.inl (.inl h)) (nat_all r)
theorem ix_tupK {K : PySem.W.Frag} {X : Cx} (hK : X.K = K) : IxR X (rIxT K) := hK ▸ ix_tup
theorem rep_tnew {K : PySem.W.Frag} {H : Hp} {p : Addr} {xs : List V} {ds : List PyData} (h : H p = none) (r : RepAll K H xs ds) : Rep K (upd H p (.tup xs)) (.ref p) (.tuple ds) := .tup (SqT.of upd_same) (r.ext (ext_new h))
end K2
set_option Elab.async false
set_option linter.all false
set_option maxRecDepth 100000
set_option maxHeartbeats 4000000
/-! R1: the law's numbers: mixed, drawn. -/
namespace K2

open PySem PySem.Spec PyProof.Rows L2 BK LamX
/-- mixed: a number from 0 to below 2147483629 -/
def spMixed : Sp := fun vs H Q _ => ∃ (c k : Int), vs = [.int c, .int k] ∧ 0 ≤ k ∧ k ≤ 1000000 ∧ ∀ r : Int, 0 ≤ r → r < 2147483648 → Q (.int r) H
theorem pos31 : (0 : Int) < 2147483647 := by decide
theorem pos29 : (0 : Int) < 2147483629 := by decide
theorem mod31 (i : Int) : -(2 ^ 64) < i % 2147483647 ∧ i % 2147483647 < 2 ^ 64 := by
  have h0 := Int.emod_nonneg i (show (2147483647 : Int) ≠ 0 by decide)
  have h1 := Int.emod_lt_of_pos i pos31
  constructor <;> omega
section
variable {P : Program} {w : World} {K : PySem.W.Frag} {mg : Str → Option Value} {base : Heap}
theorem scMixed : FnScope ["cell", "k"] ["cell", "k"] (defScope sMixed) := ⟨rfl, rfl, rfl, by decide +kernel, rfl, by decide +kernel, by decide +kernel⟩
theorem def_mixed (B : Bl mg) (F : At K mg "_law_mixed" sMixed ["cell", "k"]) : Def P w K mg base CX0 1 "_law_mixed" ["cell", "k"] spMixed := by
  refine F.ok scMixed (fun vs H Q E h => ?_) (fun f cdv A outer s H vs Q E hr h => ?_)
  · obtain ⟨c, k, rfl, _⟩ := h
    rfl
  · obtain ⟨c, k, rfl, k0, k1, q⟩ := h
    refine ⟨_, pss_cons (ps_set (i := 0) scMixed.nd rfl (Or.inl rfl) (pe_op op_mod (pe_callTy call_int1 (by rfl) B.int sInt (pa_cons (pv 0) pa_nil)) pe_int))
      (pss_one (ps_ret (pe_op op_mod (pe_op op_mul (pe_op op_mod (pe_op op_add (pe_op op_add (pe_op op_mul (pv 0) (pe_op op_add pe_int (pe_op op_mul (pe_op op_mul pe_int (pv 1)) (pv 1)))) (pe_op op_mul pe_int (pv 1))) pe_int) pe_int) pe_int) pe_int))), ?_⟩
    have m0 := Int.emod_nonneg c (show (2147483647 : Int) ≠ 0 by decide)
    have m1 := Int.emod_lt_of_pos c (show (0 : Int) < 2147483647 by decide)
    refine ⟨_, rfl, .inl ⟨c, rfl, _, _, rfl, rfl, pos31, ?_⟩⟩
    refine ⟨_, rfl, _, rfl, _, _, rfl, rfl, .inl ⟨by decide, by decide⟩, _, rfl, _, _, rfl, rfl, .inr ⟨by omega, by omega⟩, _, _, rfl, rfl, _, _, rfl, rfl, .inl ⟨by omega, by omega⟩, _, rfl, _, _, rfl, rfl, .inl ⟨by decide, by decide⟩, _, _, rfl, rfl, _, _, rfl, rfl, _, _, rfl, rfl, pos31, ?_⟩
    refine ⟨_, _, rfl, rfl, .inl (mod31 _), _, _, rfl, rfl, pos29, q _ (Int.emod_nonneg _ (by decide)) ?_⟩
    exact Int.lt_trans (Int.emod_lt_of_pos _ pos29) (by decide)
end

/-- the state's dict -/
def dS (ca la : Addr) (n : Nat) : List (Key × V) := [(.inr "cells", .ref ca), (.inr "lefts", .ref la), (.inr "at", .int n)]
theorem dS_cells (ca la : Addr) (n : Nat) : valV (dS ca la n) (.inr "cells") = some (.ref ca) := rfl
theorem dS_lefts (ca la : Addr) (n : Nat) : valV (dS ca la n) (.inr "lefts") = some (.ref la) := rfl
theorem dS_at (ca la : Addr) (n : Nat) : valV (dS ca la n) (.inr "at") = some (.int n) := rfl
theorem dS_put (ca la : Addr) (n : Nat) (v : Int) : putK (dS ca la n) (.inr "at") (.int v) = [(.inr "cells", .ref ca), (.inr "lefts", .ref la), (.inr "at", .int v)] := rfl
theorem dS_next (ca la : Addr) (n : Nat) : putK (dS ca la n) (.inr "at") (.int ((n : Int) + 1)) = dS ca la (n + 1) := rfl
/-- the state: its dict at st, its lefts at la; n draws were made -/
structure StH (st la ca : Addr) (n : Nat) (H : Hp) : Prop where
  ex : ∃ (cells lefts : List Int), H st = some (.dK (dS ca la n)) ∧ H ca = some (.lst (cells.map V.int)) ∧ H la = some (.lst (lefts.map V.int)) ∧
    lefts.length = cells.length ∧ 0 < cells.length ∧ cells.length ≤ 64 ∧ ca ≠ la
/-- nothing but the state has changed -/
def Sd (st la : Addr) (H H' : Hp) : Prop := ∀ b, b ≠ st → b ≠ la → H' b = H b
def spDraw : Sp := fun vs H Q _ => ∃ (st la ca : Addr) (n : Nat) (limit : Int), vs = [.ref st, .int limit] ∧ StH st la ca n H ∧ n ≤ 100000 ∧ 1 ≤ limit ∧ limit ≤ 1000000000000 ∧
  ∀ (r : Int) (H' : Hp), 0 ≤ r → r < limit → Sd st la H H' → StH st la ca (n + 1) H' → Q (.int r) H'
theorem hu_of {k : Nat} {A : Around} (hr : Room k A) : A.units + 1 < cLine := by
  have := hr.un
  omega
section
variable {P : Program} {w : World} {K : PySem.W.Frag} {mg : Str → Option Value} {base : Heap}
theorem scDraw : FnScope ["state", "limit", "at", "spot", "left", "mixed"] ["state", "limit"] (defScope sDraw) := ⟨rfl, rfl, rfl, by decide +kernel, rfl, by decide +kernel, by decide +kernel⟩
theorem def_draw (B : Bl mg) (Mx : Def P w K mg base CX0 1 "_law_mixed" ["cell", "k"] spMixed) (F : At K mg "_law_draw" sDraw ["state", "limit"]) : Def P w K mg base CX0 2 "_law_draw" ["state", "limit"] spDraw := by
  refine F.ok scDraw (fun vs H Q E h => ?_) (fun f cdv A outer s H vs Q E hr h => ?_)
  · obtain ⟨st, la, ca, n, limit, rfl, _⟩ := h
    rfl
  · obtain ⟨st, la, ca, n, limit, rfl, ⟨cells, lefts, h1, h2, h3, hl, hp, hz, hc⟩, hn, l1, l2, q⟩ := h
    refine ⟨_, pss_cons (ps_set (i := 2) scDraw.nd rfl (Or.inl rfl) (pe_dget (hu_of hr) (pv 0) pe_str (by intro _ _; rfl)))
      (pss_cons (ps_dput (hu_of hr) (pv 0) pe_str (pe_op op_add (pv 2) pe_int) (by rfl))
      (pss_cons (ps_set (i := 3) scDraw.nd rfl (Or.inl rfl) (pe_op op_mod (pe_callTy call_int1 (by rfl) B.int sInt (pa_cons (pv 2) pa_nil)) (pe_callB call_len_seq (by rfl) B.len sLen (pa_cons (pe_dget (hu_of hr) (pv 0) pe_str (by intro _ _; rfl)) pa_nil))))
      (pss_cons (ps_set (i := 4) scDraw.nd rfl (Or.inl rfl) (pe_ix ix_list (pe_dget (hu_of hr) (pv 0) pe_str (by intro _ _; rfl)) (pv 3) (by intro _ _; rfl)))
      (pss_cons (ps_if (pt_cmpR op_gt (pv 4) pe_int rfl)
        (pss_cons (ps_asg (pe_op op_fdivW (pv 4) (pv 1)) (pg_sub (pe_dget (hu_of hr) (pv 0) pe_str (by intro _ _; rfl)) (pv 3) set_list))
          (pss_one (ps_ret (pe_op op_mod (pe_callTy call_int1 (by rfl) B.int sInt (pa_cons (pv 4) pa_nil)) (pv 1))))) pss_nil)
      (pss_cons (ps_set (i := 5) scDraw.nd rfl (Or.inl rfl) (pe_def Mx hr (by rfl) pass0 (pa_cons (pe_def Mx hr (by rfl) pass0 (pa_cons (pe_ix ix_list (pe_dget (hu_of hr) (pv 0) pe_str (by intro _ _; rfl)) (pv 3) (by intro _ _; rfl)) (pa_cons (pv 2) pa_nil))) (pa_cons (pe_op op_add pe_int (pv 2)) pa_nil))))
      (pss_one (ps_ret (pe_op op_mod (pe_op op_fdivW (pe_callTy call_int1 (by rfl) B.int sInt (pa_cons (pe_op op_add (pe_op op_mul (pv 5) pe_int) (pe_def Mx hr (by rfl) pass0 (pa_cons (pv 5) (pa_cons (pe_op op_add pe_int (pv 2)) pa_nil)))) pa_nil)) pe_int) (pv 1))))))))), ?_⟩
    have nst : ca ≠ st := fun z => by rw [z, h1] at h2; cases h2
    have nlt : la ≠ st := fun z => by rw [z, h1] at h3; cases h3
    have g0 : ∀ {k : Key} {v : V}, valV (dS ca la n) k = some v → DGet H st (kV k) (some v) := fun {k v} e => by
      have := DGet.k (k := k) h1
      rw [e] at this
      exact this
    let H1 : Hp := upd H st (.dK (dS ca la (n + 1)))
    have e1 : H1 st = some (.dK (dS ca la (n + 1))) := upd_same
    have e2 : H1 ca = some (.lst (cells.map V.int)) := by rw [show H1 ca = H ca from upd_ne nst]; exact h2
    have e3 : H1 la = some (.lst (lefts.map V.int)) := by rw [show H1 la = H la from upd_ne nlt]; exact h3
    have p1 : DPut H st (.str "at") (.int ((n : Int) + 1)) H1 := DPut.k (k := .inr "at") (v := .int ((n : Int) + 1)) h1 (by show 3 < sizeLine; decide)
    have g1 : ∀ {k : Key} {v : V}, valV (dS ca la (n + 1)) k = some v → DGet H1 st (kV k) (some v) := fun {k v} e => by
      have := DGet.k (k := k) e1
      rw [e] at this
      exact this
    have sd1 : Sd st la H H1 := fun b b1 b2 => upd_ne b1
    have z1 : (0 : Int) < ((cells.map V.int).length : Nat) := by rw [List.length_map]; omega
    obtain ⟨sp, hs⟩ : ∃ sp : Nat, (n : Int) % ((cells.map V.int).length : Nat) = (sp : Int) := ⟨((n : Int) % ((cells.map V.int).length : Nat)).toNat, by have := Int.emod_nonneg (n : Int) (show ((cells.map V.int).length : Int) ≠ 0 by omega); omega⟩
    have sl : sp < cells.length := by
      have := Int.emod_lt_of_pos (n : Int) z1
      rw [hs, List.length_map] at this
      omega
    have ac : atI (cells.map V.int) (sp : Int) = some (.int cells[sp]) := atI_nat (by simp [sl])
    have al : atI (lefts.map V.int) (sp : Int) = some (.int (lefts[sp]'(by omega))) := atI_nat (by simp [hl, sl])
    generalize hle : lefts[sp]'(by omega) = le at al
    generalize hce : cells[sp] = ce at ac
    have stH1 : StH st la ca (n + 1) H1 := ⟨cells, lefts, e1, e2, e3, hl, hp, hz, hc⟩
    have d0 : 0 < limit := by omega
    have dv : CDivW le limit := wide_div (b := 40) d0 (by omega) (by decide) (by decide)
    refine ⟨_, rfl, st, .int n, rfl, g0 (dS_at ca la n), ?_⟩
    refine ⟨_, rfl, _, _, rfl, rfl, _, rfl, _, _, rfl, p1, ?_⟩
    refine ⟨_, rfl, .inl ⟨_, rfl, _, rfl, st, _, rfl, g1 (dS_cells ca la (n + 1)), ca, _, rfl, .inl (.inl (.inl e2)), _, _, rfl, rfl, z1, ?_⟩⟩
    show gName 3 (V.int ((n : Int) % ((cells.map V.int).length : Nat))) _ _ _
    rw [hs]
    refine ⟨_, rfl, st, _, rfl, g1 (dS_lefts ca la (n + 1)), _, rfl, la, _, _, _, rfl, rfl, .inl (.inl e3), al, ?_⟩
    refine ⟨_, rfl, _, _, rfl, rfl, _, rfl, ?_⟩
    by_cases c0 : 0 < le
    · rw [decide_eq_true c0]
      refine ⟨_, rfl, _, rfl, _, _, rfl, rfl, dv, _, rfl, st, _, rfl, g1 (dS_lefts ca la (n + 1)), _, rfl, la, _, _, sp, rfl, rfl, e3, ?_, ?_⟩
      · show ixN (lefts.map V.int).length (sp : Int) = some sp
        rw [List.length_map]
        unfold ixN
        rw [if_pos (by omega), if_pos (by omega)]
        simp
      · refine ⟨_, rfl, .inl ⟨_, rfl, _, rfl, _, _, rfl, rfl, d0, ?_⟩⟩
        refine q _ _ (Int.emod_nonneg _ (by omega)) (Int.emod_lt_of_pos _ d0) ?_ ?_
        · exact fun b b1 b2 => (upd_ne b2).trans (sd1 b b1 b2)
        · refine ⟨cells, lefts.set sp (le / limit), ?_, ?_, ?_, ?_, hp, hz, hc⟩
          · rw [upd_ne (Ne.symm nlt)]
            exact e1
          · rw [upd_ne hc]
            exact e2
          · rw [upd_same, List.map_set]
          · rw [List.length_set]
            exact hl
    · rw [decide_eq_false c0]
      refine ⟨_, rfl, st, _, rfl, g1 (dS_cells ca la (n + 1)), _, rfl, ca, _, _, _, rfl, rfl, .inl (.inl e2), ac, _, rfl, _, _, rfl, by omega, by omega, fun r1 r10 r11 => ?_⟩
      refine ⟨_, rfl, _, _, rfl, rfl, _, _, rfl, by omega, by omega, fun r2 r20 r21 => ?_⟩
      refine ⟨_, rfl, _, _, rfl, rfl, .inl ⟨by omega, by omega⟩, _, rfl, _, rfl, _, _, rfl, rfl, _, _, rfl, by omega, by omega, fun r3 r30 r31 => ?_⟩
      refine ⟨_, _, rfl, rfl, .inl ⟨_, rfl, _, _, rfl, rfl, ⟨by decide, by decide⟩, _, rfl, _, _, rfl, rfl, d0, ?_⟩⟩
      exact q _ _ (Int.emod_nonneg _ (by omega)) (Int.emod_lt_of_pos _ d0) sd1 stH1
end
end K2
set_option Elab.async false
set_option linter.all false
set_option maxRecDepth 100000
set_option maxHeartbeats 4000000
/-! R2: the law's state. -/
namespace K2
open PySem PySem.Spec PyProof.Rows L2 BK LamX
theorem same_new {H H' : Hp} {p : Addr} {o : HO} (e : Same H H') (h : H' p = none) : Same H (upd H' p o) := fun b u x => by
  rw [upd_ne (ne_of_none (e b u x) h)]
  exact e b u x
def spBegin (K : PySem.W.Frag) : Sp := fun vs H Q _ => ∃ (a : Addr) (ns : List Int), vs = [.ref a] ∧ SqL K H a (ns.map V.int) ∧ ns.length ≤ 63 ∧ ∀ (st la ca : Addr) (H' : Hp), Same H H' → H st = none → H la = none → StH st la ca 0 H' → Q (.ref st) H'
theorem canLay_ints : ∀ ns : List Int, PyData.canLayAll0 (ns.map .int) = true
  | [] => by simp [PyData.canLayAll0]
  | n :: ns => by simp [PyData.canLayAll0, PyData.canLay0, canLay_ints ns]
theorem dep_ints : ∀ ns : List Int, PyData.depthAll (ns.map .int) = 0
  | [] => by simp [PyData.depthAll]
  | n :: ns => by simp [PyData.depthAll, PyData.depth, dep_ints ns]
theorem shaped_ints (ns : List Int) : SeqAt.shaped (.list (ns.map .int)) = true := by
  simp [SeqAt.shaped, PyData.canLay0, canLay_ints, PyData.depth, dep_ints]
section
variable {P : Program} {w : World} {K : PySem.W.Frag} {mg : Str → Option Value} {base : Heap}
theorem hu_rep {k : Nat} {A : Around} (hr : Room k A) : A.units + 110 < cLine := by
  have := hr.un
  omega
theorem hu_64 {k : Nat} {A : Around} (hr : Room k A) : A.units + 64 < cLine := by
  have := hr.un
  omega
/-- list(script) if script != [] else [0] -/
theorem begin_read {σ : L2.St} {H : Hp} {a : Addr} {ns : List Int} {Q : VK} (h0 : σ[0]? = some (some (V.ref a))) (ha : SqL K H a (ns.map V.int)) (hn : ns.length ≤ 63)
    (h : ∀ (l : Addr) (H1 : Hp) (cells : List Int), Same H H1 → H1 l = some (.lst (cells.map V.int)) → 0 < cells.length → cells.length ≤ 64 → Q (.ref l) H1) :
    tIf (tTest (tOp (rNeD K) (tVar 0) (tLst tNil))) (tCB (fun xs H Q => ∃ p ys, xs = [.ref p] ∧ (SqL K H p ys ∨ SqT K H p ys) ∧ ∀ l, H l = none → Q (.ref l) (upd H l (.lst ys))) (tCons (tVar 0) tNil)) (tLst (tCons (tC (.int 0)) tNil)) σ H Q := by
  refine ⟨_, h0, Nat.zero_le _, fun p hp => ?_⟩
  have s0 : Same H (upd H p (.lst [])) := same_new (Same.refl H) hp
  have hs := sql_same s0 ha
  refine ⟨.list (ns.map .int), .list [], .lst hs (dpAll_of (RepAll.ints ns)), .lst (SqL.of upd_same) .nil, shaped_ints ns, by decide +kernel, _, rfl, ?_⟩
  cases ns with
  | nil =>
    refine ⟨by rw [sizeLine_eq]; simp, fun q hq => h q _ [0] (same_new s0 hq) upd_same (by decide) (by decide)⟩
  | cons n ns =>
    refine ⟨_, h0, a, _, rfl, .inl hs, fun l hl => h l _ (n :: ns) (same_new s0 hl) upd_same (by simp) (by simp at hn ⊢; omega)⟩
theorem scBegin : FnScope ["script", "cells_so", "cell"] ["script"] (defScope sBegin) := ⟨rfl, rfl, rfl, by decide +kernel, rfl, by decide +kernel, by decide +kernel⟩
theorem def_begin (B : Bl mg) (F : At K mg "_law_begin" sBegin ["script"]) : Def P w K mg base CX0 1 "_law_begin" ["script"] (spBegin K) := by
  refine F.ok scBegin (fun vs H Q E h => ?_) (fun f cdv A outer s H vs Q E hr h => ?_)
  · obtain ⟨a, ns, rfl, _⟩ := h
    rfl
  · obtain ⟨a, ns, rfl, ha, hn, q⟩ := h
    refine ⟨_, pss_cons (ps_set (i := 1) scBegin.nd rfl (Or.inl rfl) (pe_ifExp (pt_cmpR (op_neD (hu_64 hr)) (pv 0) (pe_lst pa_nil) (nomark _)) (pe_callTy call_list_of (by rfl) B.lst sList (pa_cons (pv 0) pa_nil)) (pe_lst (pa_cons pe_int pa_nil))))
      (pss_one (ps_ret (pe_disp (pps_cons pe_str (pv 1) (pps_cons pe_str
        (pe_lc (own := [("cell", 2)]) (g := gName 2) (tt := tYes) rfl scBegin.nd (pi_list (pv 1)) (blkOk_by (N := ["script", "cells_so", "cell"]) (sc := defScope sBegin) (by decide +kernel)) (fun _ _ _ _ _ => pg_name (i := 2) scBegin.nd rfl (Or.inl rfl)) (fun _ _ _ _ _ => pts_nil)
          (fun _ _ _ _ _ => pe_ifExp (pt_cmpR op_ge (pv 2) (pe_op op_pow pe_int pe_int) rfl) (pv 2) pe_int))
        (pps_cons pe_str pe_int pps_nil))) rfl rfl (by decide) (by decide)))), ?_⟩
    refine begin_read (K := K) rfl ha hn fun l H1 cells s1 hl1 c0 c1 => ?_
    refine fun p hp => ⟨_, rfl, _, rfl, l, rfl, ⟨_, SqL.of (by rw [upd_ne (ne_of_none hl1 hp)]; exact hl1)⟩, fun D hD => ?_⟩
    have np : D ≠ p := fun z => by rw [z, upd_same] at hD; cases hD
    have nl : D ≠ l := fun z => by rw [z, upd_ne (ne_of_none hl1 hp), hl1] at hD; cases hD
    have npl : p ≠ l := fun z => by rw [z, hl1] at hp; cases hp
    let lf : List Int := cells.map fun c => if c ≥ 10 ^ 18 then c else 0
    refine lc_list (K := K) (xs := cells.map V.int) (fun k H2 => (∀ b, b ≠ D → H2 b = upd H1 p (.dK []) b) ∧ H2 D = some (.lst ((lf.take k).map V.int))) ?_ ?_ ?_ ?_
    · exact ⟨fun b hb => upd_ne hb, upd_same⟩
    · rintro k H2 hk ⟨s2, h2⟩
      refine SqL.of ?_
      rw [s2 l (Ne.symm nl), upd_ne (Ne.symm npl)]
      exact hl1
    · rintro k x H2 hx ⟨s2, h2⟩
      obtain ⟨c, hc, rfl⟩ : ∃ c, cells[k]? = some c ∧ x = V.int c := by
        rw [List.getElem?_map] at hx
        cases e : cells[k]? with
        | none => rw [e] at hx; cases hx
        | some u => rw [e] at hx; exact ⟨u, rfl, (Option.some.inj hx).symm⟩
      have kl : k < cells.length := (List.getElem?_eq_some_iff.mp hc).1
      have lk : lf[k]? = some (if c ≥ 10 ^ 18 then c else 0) := by simp only [lf, List.getElem?_map, hc, Option.map_some]
      have next : ∀ v : Int, v = (if c ≥ 10 ^ 18 then c else 0) → ∃ acc, H2 D = some (.lst acc) ∧ acc.length < sizeLine ∧ ((∀ b, b ≠ D → upd H2 D (.lst (acc ++ [V.int v])) b = upd H1 p (.dK []) b) ∧ upd H2 D (.lst (acc ++ [V.int v])) D = some (.lst ((lf.take (k + 1)).map V.int))) := by
        rintro v rfl
        refine ⟨_, h2, by rw [sizeLine_eq, List.length_map, List.length_take]; omega, fun b hb => by rw [upd_ne hb]; exact s2 b hb, ?_⟩
        rw [upd_same, List.take_add_one, lk, List.map_append]
        rfl
      refine ⟨rfl, yes ?_⟩
      rw [if_pos rfl]
      refine ⟨_, rfl, _, _, rfl, rfl, ⟨by decide, by decide, by decide⟩, _, _, rfl, rfl, _, rfl, ?_⟩
      by_cases g : (10 : Int) ^ 18 ≤ c
      · rw [decide_eq_true (show (10 : Int) ^ (18 : Int).toNat ≤ c from g)]
        exact ⟨_, rfl, next c (if_pos g).symm⟩
      · rw [decide_eq_false (show ¬ (10 : Int) ^ (18 : Int).toNat ≤ c from g)]
        exact next 0 (if_neg g).symm
    · rintro H2 ⟨s2, h2⟩
      have fin : lf.take (cells.map V.int).length = lf := by
        rw [List.length_map]
        exact List.take_of_length_le (by simp [lf])
      rw [fin] at h2
      refine ⟨?_, [(.inr "cells", .ref l), (.inr "lefts", .ref D), (.inr "at", .int 0)], rfl, (by show 3 ≤ 15; decide), ?_⟩
      · rw [s2 p (Ne.symm np)]
        exact upd_same
      · refine q p D l _ ?_ ?_ ?_ ?_
        · intro b o e
          have e1 := s1 b o e
          have b1 : b ≠ p := fun z => by rw [z, hp] at e1; cases e1
          have b2 : b ≠ D := fun z => by rw [z] at e1 b1; rw [upd_ne b1, e1] at hD; cases hD
          rw [upd_ne b1, s2 b b2, upd_ne b1]
          exact e1
        · exact s1.free hp
        · rw [upd_ne np] at hD
          exact s1.free hD
        · refine ⟨cells, lf, upd_same, ?_, ?_, by simp [lf], c0, c1, Ne.symm nl⟩
          · rw [upd_ne (Ne.symm npl), s2 l (Ne.symm nl), upd_ne (Ne.symm npl)]
            exact hl1
          · rw [upd_ne np]
            exact h2
def spLike (K : PySem.W.Frag) : Sp := fun vs H Q _ => ∃ (x y : V) (d : PyData) (n k : Nat), vs = [x, y] ∧ Rep K H x d ∧ Rep K H y d ∧ Shw d n k ∧ n ≤ 16777216 ∧ k ≤ 100 ∧ Q (.bl true) H
theorem scLike : FnScope ["got", "due"] ["got", "due"] (defScope sLike) := ⟨rfl, rfl, rfl, by decide +kernel, rfl, by decide +kernel, by decide +kernel⟩
theorem def_like (B : Bl mg) (F : At K mg "_law_like" sLike ["got", "due"]) : DefG P w K mg base 1 "_law_like" ["got", "due"] (spLike K) := by
  refine F.okG scLike (fun vs H Q E h => ?_) (fun f cdv A outer s H vs Q E hg hr h => ?_)
  · obtain ⟨x, y, d, n, k, rfl, _⟩ := h
    rfl
  · obtain ⟨x, y, d, n, k, rfl, ha, hb, sh, hn, hk, q⟩ := h
    have un := hu_rep hr
    refine ⟨_, pss_one (ps_ret (pe_cmpR op_eq (pe_callB (call_reprV hg un) (by rfl) B.rep sRepr (pa_cons (pv 0) pa_nil)) (pe_callB (call_reprV hg un) (by rfl) B.rep sRepr (pa_cons (pv 1) pa_nil)) (nomark _))), ?_⟩
    have dk : d.depth ≤ 100 := Nat.le_trans sh.dep hk
    refine ⟨_, rfl, x, d, n, rfl, ha, sh.fine, hn, dk, _, rfl, y, d, n, rfl, hb, sh.fine, hn, dk, rfl, ?_⟩
    rw [decide_eq_true rfl]
    exact q
end
end K2
set_option Elab.async false
set_option linter.all false
set_option maxRecDepth 100000
set_option maxHeartbeats 4000000
/-! R3: heaps in which the state has moved on; drawn sizes. -/
namespace K2
open PySem PySem.Spec PyProof.Rows L2 BK LamX
/-- all but the tables and the state stays -/
structure Gs (T : List (Addr × Str)) (st la : Addr) (H H' : Hp) : Prop where
  ext : ∀ b o, b ≠ st → b ≠ la → H b = some o → (∀ ps, o ≠ .tbl ps) → H' b = some o
  tb : Tabs T H'
section
variable {T : List (Addr × Str)} {st la ca : Addr} {n : Nat}
theorem Gs.refl {H : Hp} (t : Tabs T H) : Gs T st la H H := ⟨fun _ _ _ _ e _ => e, t⟩
theorem Gs.trans {H H1 H2 : Hp} (a : Gs T st la H H1) (b : Gs T st la H1 H2) : Gs T st la H H2 := ⟨fun c o h1 h2 e n => b.ext c o h1 h2 (a.ext c o h1 h2 e n) n, b.tb⟩
theorem Gs.of {H H' : Hp} (a : Gq T H H') : Gs T st la H H' := ⟨fun b o _ _ e n => a.ext b o e n, a.tb⟩
theorem Gs.grow {H H1 H2 : Hp} (a : Gs T st la H H1) (b : Gq T H1 H2) : Gs T st la H H2 := a.trans (.of b)
theorem StH.atS {H : Hp} (S : StH st la ca n H) : H st = some (.dK (dS ca la n)) := by
  obtain ⟨_, _, h, _⟩ := S.ex
  exact h
theorem StH.atL {H : Hp} (S : StH st la ca n H) : ∃ ys, H la = some (.lst ys) := by
  obtain ⟨_, _, _, _, h, _⟩ := S.ex
  exact ⟨_, h⟩
theorem StH.atC {H : Hp} (S : StH st la ca n H) : ∃ ys, H ca = some (.lst ys) := by
  obtain ⟨_, _, _, h, _⟩ := S.ex
  exact ⟨_, h⟩
theorem StH.ext {H H' : Hp} (S : StH st la ca n H) (e : ExtN H H') : StH st la ca n H' := by
  obtain ⟨c, l, h1, h2, h3, r⟩ := S.ex
  exact ⟨c, l, e _ _ h1 (fun ps z => by cases z), e _ _ h2 (fun ps z => by cases z), e _ _ h3 (fun ps z => by cases z), r⟩
/-- an object that was not there is written -/
theorem StH.mut {H H1 : Hp} {D : Addr} {o : HO} (S0 : StH st la ca m H) (S : StH st la ca n H1) (hD : H D = none) : StH st la ca n (upd H1 D o) := by
  obtain ⟨c, l, h1, h2, h3, r⟩ := S.ex
  obtain ⟨_, _, a1, a2, a3, _⟩ := S0.ex
  have d1 : st ≠ D := ne_of_none a1 hD
  have d2 : ca ≠ D := ne_of_none a2 hD
  have d3 : la ≠ D := ne_of_none a3 hD
  exact ⟨c, l, by rw [upd_ne d1]; exact h1, by rw [upd_ne d2]; exact h2, by rw [upd_ne d3]; exact h3, r⟩
theorem Gs.drew {H H' : Hp} (t : Tabs T H) (S : StH st la ca n H) (sd : Sd st la H H') : Gs T st la H H' := by
  obtain ⟨ys, hl⟩ := S.atL
  refine ⟨fun b o h1 h2 e _ => by rw [sd b h1 h2]; exact e, fun p hp => ?_⟩
  obtain ⟨ps, h1, h2, h3⟩ := t p hp
  have away : ∀ {b o}, H b = some o → (∀ kvs, o ≠ .dK kvs) → (∀ ys, o ≠ .lst ys) → H' b = some o := fun {b o} e n1 n2 => by
    rw [sd b (fun z => by rw [z, S.atS] at e; cases e; exact n1 _ rfl) (fun z => by rw [z, hl] at e; cases e; exact n2 _ rfl)]
    exact e
  refine ⟨ps, away h1 (fun _ z => by cases z) (fun _ z => by cases z), h2, fun pos cv hc => ?_⟩
  obtain ⟨c, r1, r2⟩ := h3 pos cv hc
  exact ⟨c, r1, away r2 (fun _ z => by cases z) (fun _ z => by cases z)⟩
theorem Gs.new {H H1 : Hp} {p : Addr} {o : HO} (a : Gs T st la H H1) (h : H1 p = none) : Gs T st la H (upd H1 p o) := a.grow ((Gq.refl a.tb).new h)
/-- a list that was not there at H is written -/
theorem Gs.wrote {H H1 : Hp} {p : Addr} {xs : List V} {o : HO} (a : Gs T st la H H1) (n : H p = none) (h : H1 p = some (.lst xs)) : Gs T st la H (upd H1 p o) := by
  refine ⟨fun b u h1 h2 e nn => by rw [upd_ne (ne_of_none e n)]; exact a.ext b u h1 h2 e nn, fun q hq => ?_⟩
  obtain ⟨ps, h1, h2, h3⟩ := a.tb q hq
  have np : q.1 ≠ p := fun z => by rw [z, h] at h1; cases h1
  refine ⟨ps, by rw [upd_ne np]; exact h1, h2, fun pos cv hc => ?_⟩
  obtain ⟨c, r1, r2⟩ := h3 pos cv hc
  exact ⟨c, r1, by rw [upd_ne (fun z => by rw [z, h] at r2; cases r2)]; exact r2⟩
theorem Gs.tup {K : PySem.W.Frag} {H H' : Hp} {a : Addr} {xs : List V} (g : Gs T st la H H') (S : StH st la ca n H) (h : SqT K H a xs) : SqT K H' a xs := by
  obtain ⟨ys, hl⟩ := S.atL
  rcases h with (q | ⟨o', q⟩) | q
  · exact .inl (.inl (g.ext a _ (fun z => by rw [z, S.atS] at q; cases q) (fun z => by rw [z, hl] at q; cases q) q fun ps z => by cases z))
  · exact .inl (.inr ⟨o', g.ext a _ (fun z => by rw [z, S.atS] at q; cases q) (fun z => by rw [z, hl] at q; cases q) q fun ps z => by cases z⟩)
  · exact .inr q
mutual
theorem Gs.rep {K : PySem.W.Frag} {H H' : Hp} (g : Gs T st la H H') (S : StH st la ca n H) : ∀ {v : V} {d : PyData}, Rep K H v d → BK.noL d = true → Rep K H' v d
  | _, _, .non, _ => .non
  | _, _, .bl b, _ => .bl b
  | _, _, .int i, _ => .int i
  | _, _, .str x, _ => .str x
  | _, _, .lst _ _, n => by simp [BK.noL] at n
  | _, _, .tup hs r, n => .tup (g.tup S hs) (Gs.repA g S r (by simpa [BK.noL] using n))
theorem Gs.repA {K : PySem.W.Frag} {H H' : Hp} (g : Gs T st la H H') (S : StH st la ca n H) : ∀ {vs : List V} {ds : List PyData}, RepAll K H vs ds → BK.noL.noLA ds = true → RepAll K H' vs ds
  | _, _, .nil, _ => .nil
  | _, _, .cons hd r, n => by
    simp only [BK.noL.noLA, Bool.and_eq_true] at n
    exact .cons (Gs.rep g S hd n.1) (Gs.repA g S r n.2)
end
theorem Gs.it {K : PySem.W.Frag} {H H' : Hp} (g : Gs T st la H H') (S : StH st la ca n H) {v : V} {d : PyData} {k : Nat} (r : Rep K H v d) (h : IT k d) : Rep K H' v d := g.rep S r h.noL
end
end K2
set_option Elab.async false
set_option linter.all false
set_option maxRecDepth 100000
set_option maxHeartbeats 4000000
/-! KMB: beats: the mathematics. -/
namespace BK
/-- a beat: its period, its phase -/
abbrev Bt := Nat × Nat
structure BtOk (b : Bt) : Prop where
  lo : 1 ≤ b.1
  hi : b.1 ≤ 24
  ph : b.2 < b.1
theorem bezout : ∀ p, p < 25 → ∀ q, q < 25 → 0 < p → 0 < q → ∃ x, x < 25 ∧ p * x % q = Nat.gcd p q % q := by decide +kernel
theorem meet_to {p q a b k w : Nat} (h1 : w % p = a) (h2 : (w + k) % q = b) : ((b : Int) - a - k) % ((Nat.gcd p q : Nat) : Int) = 0 := by
  refine Int.emod_eq_zero_of_dvd ?_
  have e1 := Nat.div_add_mod w p
  have e2 := Nat.div_add_mod (w + k) q
  rw [h1] at e1
  rw [h2] at e2
  have d1 : ((Nat.gcd p q : Nat) : Int) ∣ (p : Int) * (w / p : Nat) := Int.dvd_trans (Int.natCast_dvd_natCast.mpr (Nat.gcd_dvd_left p q)) (Int.dvd_mul_right _ _)
  have d2 : ((Nat.gcd p q : Nat) : Int) ∣ (q : Int) * ((w + k) / q : Nat) := Int.dvd_trans (Int.natCast_dvd_natCast.mpr (Nat.gcd_dvd_right p q)) (Int.dvd_mul_right _ _)
  have e : (b : Int) - a - k = (p : Int) * (w / p : Nat) - (q : Int) * ((w + k) / q : Nat) := by
    have f1 : ((p * (w / p) + a : Nat) : Int) = (w : Int) := by rw [e1]
    have f2 : ((q * ((w + k) / q) + b : Nat) : Int) = ((w + k : Nat) : Int) := by rw [e2]
    simp only [Int.natCast_add, Int.natCast_mul] at f1 f2
    omega
  rw [e]
  exact Int.dvd_sub d1 d2
theorem meet_of {p q a b k : Nat} (hp : 0 < p) (hp2 : p < 25) (hq : 0 < q) (hq2 : q < 25) (ha : a < p) (hb : b < q) (h : ((b : Int) - a - k) % ((Nat.gcd p q : Nat) : Int) = 0) : ∃ w, w < p * q ∧ w % p = a ∧ (w + k) % q = b := by
  obtain ⟨x, _, hx⟩ := bezout p hp2 q hq2 hp hq
  obtain ⟨m, hm⟩ := Int.dvd_of_emod_eq_zero h
  have qi : (0 : Int) < (q : Int) := by omega
  obtain ⟨t, ht⟩ : ∃ t : Nat, (t : Int) = m % (q : Int) := ⟨(m % (q : Int)).toNat, by have := Int.emod_nonneg m (show (q : Int) ≠ 0 by omega); omega⟩
  have hc : (x * t) % q < q := Nat.mod_lt _ hq
  refine ⟨a + p * ((x * t) % q), ?_, ?_, ?_⟩
  · have : p * ((x * t) % q) ≤ p * (q - 1) := Nat.mul_le_mul_left p (by omega)
    have e : p * q = p * (q - 1) + p := by
      rw [← Nat.mul_succ]
      congr 1
      omega
    omega
  · rw [Nat.add_mul_mod_self_left, Nat.mod_eq_of_lt ha]
  · have e1 := Nat.div_add_mod (x * t) q
    have e2 := Nat.div_add_mod (p * x) q
    have e3 := Nat.div_add_mod (Nat.gcd p q) q
    have e4 := Int.mul_ediv_add_emod m (q : Int)
    rw [hx] at e2
    rw [← ht] at e4
    generalize (x * t) % q = u at *
    generalize (x * t) / q = c at *
    generalize (p * x) / q = e at *
    generalize Nat.gcd p q / q = f at *
    generalize Nat.gcd p q % q = g0 at *
    generalize Nat.gcd p q = g at *
    generalize m / (q : Int) = d at *
    have key : ((a + p * u + k : Nat) : Int) = b + (q : Int) * (((e : Int) - f) * t - p * c - g * d) := by
      have f1 : (q : Int) * c + u = x * t := by exact_mod_cast e1
      have f2 : (q : Int) * e + g0 = p * x := by exact_mod_cast e2
      have f3 : (q : Int) * f + g0 = g := by exact_mod_cast e3
      push_cast
      grind
    have n : (((a + p * u + k) % q : Nat) : Int) = b := by
      rw [Int.natCast_emod, key, Int.add_mul_emod_self_left, Int.emod_eq_of_lt (by omega) (by omega)]
    omega
theorem mod_lcm_left (p q w : Nat) : w % Nat.lcm p q % p = w % p := Nat.mod_mod_of_dvd w (Nat.dvd_lcm_left p q)
theorem mod_lcm_right (p q w : Nat) : w % Nat.lcm p q % q = w % q := Nat.mod_mod_of_dvd w (Nat.dvd_lcm_right p q)
/-- both are held -/
def hb (x y : Bt) (k w : Nat) : Bool := w % x.1 == x.2 && (w + k) % y.1 == y.2
theorem hb_iff {x y : Bt} {k w : Nat} : hb x y k w = true ↔ w % x.1 = x.2 ∧ (w + k) % y.1 = y.2 := by simp [hb]
/-- the weeks of the law -/
def wks (x y : Bt) (k N : Nat) : List Nat := (List.range N).filter (hb x y k)
theorem mem_wks {x y : Bt} {k N w : Nat} : w ∈ wks x y k N ↔ w < N ∧ w % x.1 = x.2 ∧ (w + k) % y.1 = y.2 := by
  unfold wks
  rw [List.mem_filter, List.mem_range, hb_iff]
theorem some_wk {x y : Bt} (hx : BtOk x) (hy : BtOk y) (k : Nat) : wks x y k (x.1 * y.1 + 24) ≠ [] ↔ ((y.2 : Int) - x.2 - k) % ((Nat.gcd x.1 y.1 : Nat) : Int) = 0 := by
  constructor
  · intro h
    obtain ⟨w, hw⟩ := List.exists_mem_of_ne_nil _ h
    obtain ⟨_, h1, h2⟩ := mem_wks.mp hw
    exact meet_to h1 h2
  · intro h e
    obtain ⟨w, h0, h1, h2⟩ := meet_of (by have := hx.lo; omega) (by have := hx.hi; omega) (by have := hy.lo; omega) (by have := hy.hi; omega) hx.ph hy.ph h
    have : w ∈ wks x y k (x.1 * y.1 + 24) := mem_wks.mpr ⟨by omega, h1, h2⟩
    rw [e] at this
    cases this
theorem sorted_wks (x y : Bt) (k N : Nat) : (wks x y k N).Pairwise (· < ·) := List.pairwise_lt_range.filter _
/-- the first of them is the least of all -/
theorem first_least {x y : Bt} {k N w0 : Nat} {l : List Nat} (e : wks x y k N = w0 :: l) {w : Nat} (h1 : w % x.1 = x.2) (h2 : (w + k) % y.1 = y.2) : w0 ≤ w := by
  have m0 : w0 ∈ wks x y k N := by rw [e]; exact List.mem_cons_self
  obtain ⟨l0, _⟩ := mem_wks.mp m0
  by_cases hw : w < N
  · have m : w ∈ wks x y k N := mem_wks.mpr ⟨hw, h1, h2⟩
    have s := sorted_wks x y k N
    rw [e] at m s
    rcases List.mem_cons.mp m with z | z
    · omega
    · have := (List.pairwise_cons.mp s).1 w z
      omega
  · omega
theorem same_far {x y : Bt} {w m : Nat} (h1 : w % x.1 = x.2) (h2 : (w + 0) % y.1 = y.2) : (w + Nat.lcm x.1 y.1 * m) % x.1 = x.2 ∧ (w + Nat.lcm x.1 y.1 * m) % y.1 = y.2 := by
  obtain ⟨c, hc⟩ := Nat.dvd_lcm_left x.1 y.1
  obtain ⟨d, hd⟩ := Nat.dvd_lcm_right x.1 y.1
  constructor
  · rw [hc, Nat.mul_assoc, Nat.add_mul_mod_self_left]
    exact h1
  · rw [hd, Nat.mul_assoc, Nat.add_mul_mod_self_left]
    exact h2
theorem lcm_diff {x y : Bt} {w v : Nat} (le : w ≤ v) (h1 : w % x.1 = x.2) (h2 : (w + 0) % y.1 = y.2) (h3 : v % x.1 = x.2) (h4 : (v + 0) % y.1 = y.2) : Nat.lcm x.1 y.1 ∣ v - w := by
  refine Nat.lcm_dvd ?_ ?_
  · exact Nat.dvd_of_mod_eq_zero (Nat.sub_mod_eq_zero_of_mod_eq (h3.trans h1.symm))
  · exact Nat.dvd_of_mod_eq_zero (Nat.sub_mod_eq_zero_of_mod_eq (h4.trans h2.symm))
theorem lcm_pos {x y : Bt} (hx : BtOk x) (hy : BtOk y) : 0 < Nat.lcm x.1 y.1 := Nat.lcm_pos (by have := hx.lo; omega) (by have := hy.lo; omega)
theorem gap_eq {x y : Bt} {N i w v : Nat} (hx : BtOk x) (hy : BtOk y) (e1 : (wks x y 0 N)[i]? = some w) (e2 : (wks x y 0 N)[i + 1]? = some v) : v = w + Nat.lcm x.1 y.1 := by
  have L := lcm_pos hx hy
  obtain ⟨i1, g1⟩ := List.getElem?_eq_some_iff.mp e1
  obtain ⟨i2, g2⟩ := List.getElem?_eq_some_iff.mp e2
  have s := List.pairwise_iff_getElem.mp (sorted_wks x y 0 N)
  have lt : w < v := by
    have := s i (i + 1) i1 i2 (by omega)
    rw [g1, g2] at this
    exact this
  obtain ⟨_, a1, a2⟩ := mem_wks.mp (List.mem_of_getElem? e1)
  obtain ⟨vN, b1, b2⟩ := mem_wks.mp (List.mem_of_getElem? e2)
  have d := Nat.le_of_dvd (by omega) (lcm_diff (by omega) a1 a2 b1 b2)
  obtain ⟨c1, c2⟩ := same_far (m := 1) a1 a2
  rw [Nat.mul_one] at c1 c2
  have m : w + Nat.lcm x.1 y.1 ∈ wks x y 0 N := mem_wks.mpr ⟨by omega, c1, c2⟩
  obtain ⟨j, hj, ej⟩ := List.mem_iff_getElem.mp m
  by_cases h : w + Nat.lcm x.1 y.1 = v
  · exact h.symm
  · exfalso
    by_cases h1 : j ≤ i
    · rcases Nat.lt_or_eq_of_le h1 with z | z
      · have := s j i hj i1 z
        rw [ej, g1] at this
        omega
      · subst z
        rw [g1] at ej
        omega
    · rcases Nat.lt_or_eq_of_le (show i + 1 ≤ j by omega) with z | z
      · have := s (i + 1) j i2 hj z
        rw [ej, g2] at this
        omega
      · subst z
        rw [g2] at ej
        omega
theorem wks_at {x y : Bt} {N : Nat} (hx : BtOk x) (hy : BtOk y) {w0 : Nat} (e0 : (wks x y 0 N)[0]? = some w0) : ∀ (i v : Nat), (wks x y 0 N)[i]? = some v → v = w0 + i * Nat.lcm x.1 y.1
  | 0, v, h => by
    rw [e0] at h
    have := Option.some.inj h
    omega
  | i + 1, v, h => by
    have i2 := (List.getElem?_eq_some_iff.mp h).1
    have e1 : (wks x y 0 N)[i]? = some ((wks x y 0 N)[i]'(by omega)) := List.getElem?_eq_getElem (by omega)
    have a := wks_at hx hy e0 i _ e1
    have b := gap_eq hx hy e1 h
    rw [b, a, Nat.succ_mul]
    omega
theorem wks_few {x y : Bt} (hx : BtOk x) (hy : BtOk y) : (wks x y 0 (x.1 * y.1 + 24)).length ≤ 50 := by
  have L := lcm_pos hx hy
  by_cases h : (wks x y 0 (x.1 * y.1 + 24)).length ≤ 50
  · exact h
  · exfalso
    have e0 : (wks x y 0 (x.1 * y.1 + 24))[0]? = some ((wks x y 0 (x.1 * y.1 + 24))[0]'(by omega)) := List.getElem?_eq_getElem (by omega)
    have e1 : (wks x y 0 (x.1 * y.1 + 24))[50]? = some ((wks x y 0 (x.1 * y.1 + 24))[50]'(by omega)) := List.getElem?_eq_getElem (by omega)
    have a := wks_at hx hy e0 50 _ e1
    have b := (mem_wks.mp (List.mem_of_getElem? e1)).1
    have g : Nat.gcd x.1 y.1 ≤ 24 := Nat.le_trans (Nat.gcd_le_left _ (by have := hx.lo; omega)) hx.hi
    have p : Nat.gcd x.1 y.1 * Nat.lcm x.1 y.1 = x.1 * y.1 := Nat.gcd_mul_lcm _ _
    have q : Nat.gcd x.1 y.1 * Nat.lcm x.1 y.1 ≤ 24 * Nat.lcm x.1 y.1 := Nat.mul_le_mul_right _ g
    omega
theorem loop_least {x y : Bt} {i : Nat} (h : ∀ j, j < i → ¬ (x.2 + x.1 * j) % y.1 = y.2) {w : Nat} (h1 : w % x.1 = x.2) (h2 : (w + 0) % y.1 = y.2) : x.2 + x.1 * i ≤ w := by
  have e := Nat.div_add_mod w x.1
  rw [h1] at e
  by_cases c : w / x.1 < i
  · refine absurd ?_ (h (w / x.1) c)
    rw [Nat.add_comm, e]
    exact h2
  · have : x.1 * i ≤ x.1 * (w / x.1) := Nat.mul_le_mul_left _ (by omega)
    omega
theorem loop_none {x y : Bt} (hx : BtOk x) (hy : BtOk y) (h : ∀ j, x.2 + x.1 * j < Nat.lcm x.1 y.1 → ¬ (x.2 + x.1 * j) % y.1 = y.2) (w : Nat) : ¬ (w % x.1 = x.2 ∧ (w + 0) % y.1 = y.2) := by
  rintro ⟨h1, h2⟩
  have L := lcm_pos hx hy
  have e := Nat.div_add_mod (w % Nat.lcm x.1 y.1) x.1
  have e1 : w % Nat.lcm x.1 y.1 % x.1 = x.2 := (mod_lcm_left x.1 y.1 w).trans h1
  have e2 : w % Nat.lcm x.1 y.1 % y.1 = y.2 := (mod_lcm_right x.1 y.1 w).trans h2
  rw [e1] at e
  have lt : w % Nat.lcm x.1 y.1 < Nat.lcm x.1 y.1 := Nat.mod_lt _ L
  have e' : x.2 + x.1 * (w % Nat.lcm x.1 y.1 / x.1) = w % Nat.lcm x.1 y.1 := by omega
  refine h (w % Nat.lcm x.1 y.1 / x.1) (by omega) ?_
  rw [e']
  exact e2
end BK
set_option Elab.async false
set_option linter.all false
set_option maxRecDepth 100000
set_option maxHeartbeats 4000000
/-! KitR: comprehensions over enumerate of a tuple, zip of lists; lcm. -/
namespace BK
open PySem PySem.Spec PyProof.Rows L2 LamX
section
variable {g : TG} {tt : TT} {te : TE} {vs : List Nat} {σ : L2.St} {H1 : Hp} {D : Addr} {Qd : Hp → Prop}
theorem lc_enumT {K : PySem.W.Frag} {a : Addr} {xs : List V} (Pv : Nat → Hp → Prop) (h0 : Pv 0 (upd H1 D (HO.lst []))) (hq : ∀ i H, i ≤ xs.length → Pv i H → SqT K H a xs)
    (hs : ∀ (i : Nat) x U H, xs[i]? = some x → Pv i H → H U = none → g (.ref U) (wipe σ vs) (upd H U (.tup [.int (i : Nat), x])) fun σ2 H2 => wipe σ2 vs = wipe σ vs ∧ tt σ2 H2 fun b H3 => if b = true then te σ2 H3 fun y H4 => ∃ acc, H4 D = some (HO.lst acc) ∧ acc.length < sizeLine ∧ Pv (i + 1) (upd H4 D (HO.lst (acc ++ [y]))) else Pv (i + 1) H3)
    (hd : ∀ H, Pv xs.length H → Qd H) : ∃ W : Nat → Nat → Hp → Prop, (∃ m, W 0 m (upd H1 D (HO.lst []))) ∧ ∀ (i m : Nat) (H : Hp), W i m H → (Ite2 K a).stop i H ∧ Qd H ∨ (Ite2 K a).go i H ∧ ∃ Nx : Hp → Prop, (∀ H', Nx H' → ∃ m', m' < m ∧ W (i + 1) m' H') ∧ ∀ x H', (Ite2 K a).yld i H x H' →
      g x (wipe σ vs) H' fun σ2 H2 => wipe σ2 vs = wipe σ vs ∧ tt σ2 H2 fun b H3 => if b = true then te σ2 H3 fun y H4 => ∃ acc, H4 D = some (HO.lst acc) ∧ acc.length < sizeLine ∧ Nx (upd H4 D (HO.lst (acc ++ [y]))) else Nx H3 := by
  refine lc_n xs.length Pv h0 (fun i H hi p => ⟨xs, xs[i], hq i H (Nat.le_of_lt hi) p, by simp [hi]⟩) (fun H p => ⟨xs, hq _ H (Nat.le_refl _) p, rfl⟩) (fun i x H H' hi p y => ?_) hd
  obtain ⟨U, x', rfl, hT, rfl, f1⟩ := y
  exact hs i x' U H (f1 xs (hq i H (Nat.le_of_lt hi) p)) p hT
theorem lc_zipL {K : PySem.W.Frag} {a b : Addr} {xs ys : List V} (hl : ys.length + 1 = xs.length ∨ (xs = [] ∧ ys = [])) (Pv : Nat → Hp → Prop) (h0 : Pv 0 (upd H1 D (HO.lst []))) (hq : ∀ i H, Pv i H → SqL K H a xs ∧ SqL K H b ys)
    (hs : ∀ i x y U H, xs[i]? = some x → ys[i]? = some y → Pv i H → H U = none → g (.ref U) (wipe σ vs) (upd H U (.tup [x, y])) fun σ2 H2 => wipe σ2 vs = wipe σ vs ∧ tt σ2 H2 fun b H3 => if b = true then te σ2 H3 fun y H4 => ∃ acc, H4 D = some (HO.lst acc) ∧ acc.length < sizeLine ∧ Pv (i + 1) (upd H4 D (HO.lst (acc ++ [y]))) else Pv (i + 1) H3)
    (hd : ∀ H, Pv ys.length H → Qd H) : ∃ W : Nat → Nat → Hp → Prop, (∃ m, W 0 m (upd H1 D (HO.lst []))) ∧ ∀ (i m : Nat) (H : Hp), W i m H → (Itz K a b).stop i H ∧ Qd H ∨ (Itz K a b).go i H ∧ ∃ Nx : Hp → Prop, (∀ H', Nx H' → ∃ m', m' < m ∧ W (i + 1) m' H') ∧ ∀ x H', (Itz K a b).yld i H x H' →
      g x (wipe σ vs) H' fun σ2 H2 => wipe σ2 vs = wipe σ vs ∧ tt σ2 H2 fun b H3 => if b = true then te σ2 H3 fun y H4 => ∃ acc, H4 D = some (HO.lst acc) ∧ acc.length < sizeLine ∧ Nx (upd H4 D (HO.lst (acc ++ [y]))) else Nx H3 := by
  have lx : ys.length ≤ xs.length := by
    rcases hl with z | ⟨z1, z2⟩
    · omega
    · rw [z1, z2]
      exact Nat.le_refl _
  refine lc_n ys.length Pv h0 (fun i H hi p => ?_) (fun H p => ⟨xs, ys, (hq _ H p).1, (hq _ H p).2, .inr (Nat.le_refl _)⟩) (fun i x H H' hi p y => ?_) hd
  · exact ⟨xs, ys, xs[i], ys[i], (hq i H p).1, (hq i H p).2, List.getElem?_eq_getElem (by omega), List.getElem?_eq_getElem hi⟩
  · obtain ⟨U, x', y', rfl, hT, rfl, f1, f2⟩ := y
    exact hs i x' y' U H (f1 xs (hq i H p).1) (f2 ys (hq i H p).2) p hT
end
section
variable {X : Cx}
def rLcm : List V → Hp → VK → Prop := fun vs H Q => ∃ a b : Nat, vs = [.int (a : Nat), .int (b : Nat)] ∧ a < 1000 ∧ b < 1000 ∧ Q (.int ((Nat.lcm a b : Nat) : Int)) H
theorem cr_lcm : CallR X (.builtin "math.lcm") rLcm := by
  intro pins s σ H vs us Q I r h
  obtain ⟨a, b, rfl, ha, hb, q⟩ := h
  obtain ⟨t, u, rfl⟩ := Vals.int2 r
  refine PySem.W.mc_lcm (by omega) (by omega) fun _ => ?_
  exact ⟨.int _, H, I.tok _, ⟨_, rfl⟩, q⟩
end
end BK
set_option Elab.async false
set_option linter.all false
set_option maxRecDepth 100000
set_option maxHeartbeats 4000000
/-! B1: the program: beats, what is held. -/
namespace K2
open PySem PySem.Spec PyProof.Rows L2 BK LamX
def dB (b : Bt) : PyData := .tuple [.int (b.1 : Nat), .int (b.2 : Nat)]
def dBs (bs : List Bt) : PyData := .tuple (bs.map dB)
theorem repB {K : PySem.W.Frag} {H : Hp} {v : V} {b : Bt} (h : Rep K H v (dB b)) : ∃ a, v = .ref a ∧ SqT K H a [.int (b.1 : Nat), .int (b.2 : Nat)] := by
  obtain ⟨a, xs, rfl, hs, ra⟩ := repTup h
  cases ra with
  | cons h1 r =>
    cases r with
    | cons h2 r =>
      cases r
      cases h1
      cases h2
      exact ⟨a, rfl, hs⟩
theorem bs_at {K : PySem.W.Frag} {H : Hp} {xs : List V} {bs : List Bt} {i : Nat} {x : V} (r : RepAll K H xs (bs.map dB)) (h : xs[i]? = some x) : ∃ b, bs[i]? = some b ∧ Rep K H x (dB b) := by
  obtain ⟨d, h1, h2⟩ := BK.rep_at r h
  rw [List.getElem?_map] at h1
  cases e : bs[i]? with
  | none => rw [e] at h1; cases h1
  | some b =>
    rw [e] at h1
    cases h1
    exact ⟨b, rfl, h2⟩
/-- what is held in a week: the places -/
def hAt (bs : List Bt) (w i : Nat) : Bool := match bs[i]? with
  | some b => w % b.1 == b.2
  | none => false
def hIn (bs : List Bt) (w n : Nat) : List Nat := (List.range n).filter (hAt bs w)
theorem hIn_succ (bs : List Bt) (w n : Nat) : hIn bs w (n + 1) = hIn bs w n ++ if hAt bs w n = true then [n] else [] := by
  unfold hIn
  rw [List.range_succ, List.filter_append]
  cases h : hAt bs w n <;> simp [h]
theorem hIn_len (bs : List Bt) (w n : Nat) : (hIn bs w n).length ≤ n := by
  unfold hIn
  have := List.length_filter_le (hAt bs w) (List.range n)
  rw [List.length_range] at this
  exact this
def BtsOk (bs : List Bt) : Prop := bs.length ≤ 10 ∧ ∀ b ∈ bs, BtOk b
def spBeat (K : PySem.W.Frag) : Sp := fun vs H Q _ => ∃ (x : V) (b : Bt), vs = [x] ∧ Rep K H x (dB b) ∧ BtOk b ∧ Q (.bl true) H
def spSame (K : PySem.W.Frag) : Sp := fun vs H Q _ => ∃ (x : V) (b : Bt), vs = [x] ∧ Rep K H x (dB b) ∧ BtOk b ∧ Q x H
def spNeedT (K : PySem.W.Frag) : Sp := fun vs H Q _ => ∃ (x : V) (bs : List Bt), vs = [x] ∧ Rep K H x (dBs bs) ∧ bs.length ≤ 10 ∧ Q x H
def spNeedBs (K : PySem.W.Frag) (T : List (Addr × Str)) : Sp := fun vs H Q _ => ∃ (x : V) (bs : List Bt), vs = [x] ∧ Rep K H x (dBs bs) ∧ BtsOk bs ∧ Tabs T H ∧ ∀ H', Gq T H H' → Q x H'
def spHeldIn (K : PySem.W.Frag) (T : List (Addr × Str)) : Sp := fun vs H Q _ => ∃ (x : V) (bs : List Bt) (w : Nat), vs = [x, .int (w : Nat)] ∧ Rep K H x (dBs bs) ∧ BtsOk bs ∧ Tabs T H ∧ ∀ v H', Gq T H H' → Rep K H' v (dN (hIn bs w bs.length)) → Q v H'
section
variable {P : Program} {w : World} {K : PySem.W.Frag} {mg : Str → Option Value} {base : Heap} {T : List (Addr × Str)}
theorem scBeat : FnScope ["value"] ["value"] (defScope sIsBeat) := ⟨rfl, rfl, rfl, by decide +kernel, rfl, by decide +kernel, by decide +kernel⟩
theorem def_beat (m24 : ∃ t, mg "MOST_PERIOD" = some (.int 24 t)) (W : Def P w K mg base CX0 2 "is_within" ["value", "low", "high"] (spWithin K)) (R : Def P w K mg base CX0 1 "is_row" ["value", "many"] (spRow K)) (F : At K mg "is_beat" sIsBeat ["value"]) : Def P w K mg base CX0 3 "is_beat" ["value"] (spBeat K) := by
  refine F.ok scBeat (fun vs H Q E h => ?_) (fun f cdv A outer s H vs Q E hr h => ?_)
  · obtain ⟨x, b, rfl, _⟩ := h
    rfl
  · obtain ⟨x, b, rfl, hx, ok, q⟩ := h
    obtain ⟨t, m⟩ := m24
    refine ⟨_, pss_one (ps_ret (pe_and (pe_def R (hr.mono (by decide)) (by rfl) pass0 (pa_cons (pv 0) (pa_cons pe_int pa_nil)))
      (pe_and (pe_def W hr (by rfl) pass0 (pa_cons (pe_ix ix_tup (pv 0) pe_int (fun _ _ => rfl)) (pa_cons pe_int (pa_cons (pe_glob (v := .int 24) (by rfl) m ⟨_, rfl⟩) pa_nil))))
      (pe_one (pe_def W hr (by rfl) pass0 (pa_cons (pe_ix ix_tup (pv 0) pe_int (fun _ _ => rfl)) (pa_cons pe_int (pa_cons (pe_op op_sub (pe_ix ix_tup (pv 0) pe_int (fun _ _ => rfl)) pe_int) pa_nil)))))))), ?_⟩
    obtain ⟨a, rfl, ha⟩ := repB hx
    have l1 := ok.lo
    have l2 := ok.hi
    have l3 := ok.ph
    refine ⟨_, rfl, _, dB b, 2, rfl, hx, _, rfl, ?_⟩
    refine ⟨_, rfl, a, _, _, _, rfl, rfl, ha, (atI_nat (j := 0) rfl), _, .int (b.1 : Nat), 1, 24, rfl, .int _, ?_⟩
    have e1 : within (.int (b.1 : Nat)) 1 24 = true := by
      simp only [within, Bool.and_eq_true, decide_eq_true_eq]
      omega
    rw [e1]
    refine ⟨_, rfl, ?_⟩
    refine ⟨_, rfl, a, _, _, _, rfl, rfl, ha, (atI_nat (j := 1) rfl), _, rfl, a, _, _, _, rfl, rfl, ha, (atI_nat (j := 0) rfl), _, _, rfl, rfl, _, .int (b.2 : Nat), 0, _, rfl, .int _, ?_⟩
    have e2 : within (.int (b.2 : Nat)) 0 ((b.1 : Int) - 1) = true := by
      simp only [within, Bool.and_eq_true, decide_eq_true_eq]
      omega
    rw [e2]
    exact q
theorem scNeedBeat : FnScope ["value"] ["value"] (defScope sNeedBeat) := ⟨rfl, rfl, rfl, by decide +kernel, rfl, by decide +kernel, by decide +kernel⟩
theorem def_needBeat (B : Def P w K mg base CX0 3 "is_beat" ["value"] (spBeat K)) (F : At K mg "need_beat" sNeedBeat ["value"]) : Def P w K mg base CX0 4 "need_beat" ["value"] (spSame K) := by
  refine F.ok scNeedBeat (fun vs H Q E h => ?_) (fun f cdv A outer s H vs Q E hr h => ?_)
  · obtain ⟨x, b, rfl, _⟩ := h
    rfl
  · obtain ⟨x, b, rfl, hx, ok, q⟩ := h
    refine ⟨_, pss_cons (ps_if (pt_not (pt_val (pe_def B hr (by rfl) pass0 (pa_cons (pv 0) pa_nil)))) (pss_one ps_never) pss_nil) (pss_one (ps_ret (pv 0))), ?_⟩
    exact ⟨_, rfl, x, b, rfl, hx, ok, _, rfl, _, rfl, q⟩
theorem scNeedT : FnScope ["value"] ["value"] (defScope sNeedTuple) := ⟨rfl, rfl, rfl, by decide +kernel, rfl, by decide +kernel, by decide +kernel⟩
theorem def_needT (B : Bl mg) (m40 : ∃ t, mg "MOST_BEATS" = some (.int 40 t)) (F : At K mg "need_tuple" sNeedTuple ["value"]) : Def P w K mg base CX0 1 "need_tuple" ["value"] (spNeedT K) := by
  refine F.ok scNeedT (fun vs H Q E h => ?_) (fun f cdv A outer s H vs Q E hr h => ?_)
  · obtain ⟨x, b, rfl, _⟩ := h
    rfl
  · obtain ⟨x, bs, rfl, hx, l10, q⟩ := h
    obtain ⟨t, m⟩ := m40
    refine ⟨_, pss_cons (ps_if (pt_or (po_cons (pt_not (pt_val (pe_callB call_isi (by rfl) B.isi sIns (pa_cons (pv 0) (pa_cons (pe_ty (by rfl) B.tup sTup) pa_nil)))))
        (po_cons (pt_cmpR op_gt (pe_callB call_len_seq (by rfl) B.len sLen (pa_cons (pv 0) pa_nil)) (pe_glob (v := .int 40) (by rfl) m ⟨_, rfl⟩) (nomark _)) po_nil))) (pss_one ps_never) pss_nil) (pss_one (ps_ret (pv 0))), ?_⟩
    obtain ⟨a, xs, rfl, hs, ra⟩ := repTup hx
    have hl := ra.length
    rw [List.length_map] at hl
    refine ⟨_, rfl, _, _, _, _, _, rfl, .ty "tuple", tyx_of hx, kit_ty (kit_tuple _), _, rfl, ?_⟩
    refine ifN rfl ?_
    refine ⟨_, rfl, a, _, rfl, .inr hs, _, _, rfl, rfl, _, rfl, ?_⟩
    refine ifN (decide_eq_false (by omega)) ?_
    exact ⟨_, rfl, q⟩
theorem scNeedBs : FnScope ["beats", "index", "beat"] ["beats"] (defScope sNeedBeats) := ⟨rfl, rfl, rfl, by decide +kernel, rfl, by decide +kernel, by decide +kernel⟩
theorem def_needBs (B : Bl mg) (N : Def P w K mg base CX0 1 "need_tuple" ["value"] (spNeedT K)) (Be : Def P w K mg base CX0 3 "is_beat" ["value"] (spBeat K)) (F : At K mg "need_beats" sNeedBeats ["beats"]) : Def P w K mg base CX0 4 "need_beats" ["beats"] (spNeedBs K T) := by
  refine F.ok scNeedBs (fun vs H Q E h => ?_) (fun f cdv A outer s H vs Q E hr h => ?_)
  · obtain ⟨x, b, rfl, _⟩ := h
    rfl
  · obtain ⟨x, bs, rfl, hx, ⟨l10, ok⟩, tb, q⟩ := h
    refine ⟨_, pss_cons (ps_for PassesOwn.never rfl (pi_enumT (by rfl) B.enu (pa_cons (pe_def N (hr.mono (by decide)) (by rfl) pass0 (pa_cons (pv 0) pa_nil)) pa_nil)) (pg_tup rfl (pgs_cons (pg_name (i := 1) scNeedBs.nd rfl (Or.inl rfl)) (pgs_cons (pg_name (i := 2) scNeedBs.nd rfl (Or.inl rfl)) pgs_nil)))
        (pss_one (ps_if (pt_not (pt_val (pe_def Be hr (by rfl) pass0 (pa_cons (pv 2) pa_nil)))) (pss_one ps_never) pss_nil)))
      (pss_one (ps_ret (pv 0))), ?_⟩
    obtain ⟨a, xs, rfl, hs, ra⟩ := repTup hx
    refine ⟨_, rfl, _, bs, rfl, hx, l10, a, xs, rfl, hs, for_enumT (K := K) (a := a) (xs := xs) (fun i σ H' => ∃ (s1 s2 : Option V), Gq T H H' ∧ σ = [some (.ref a), s1, s2]) ?_ ?_ ?_ ?_⟩
    · exact ⟨none, none, Gq.refl tb, rfl⟩
    · rintro i σ H' _ ⟨_, _, g, _⟩
      exact sqt_ext g.ext hs
    · rintro i y σ H' U hi ⟨s1, s2, g, rfl⟩ hU
      obtain ⟨b, eb, rb⟩ := bs_at ra hi
      have gU := g.new (o := .tup [.int (i : Nat), y]) hU
      refine ⟨U, _, rfl, .inl (.inl upd_same), rfl, _, _, rfl, _, _, rfl, rfl, ?_⟩
      exact ⟨_, rfl, y, b, rfl, gU.rep rb, ok b (List.mem_of_getElem? eb), _, rfl, _, _, gU, rfl⟩
    · rintro σ H' ⟨s1, s2, g, rfl⟩
      exact ⟨_, rfl, q H' g⟩
def nHi : List Str := ["beats", "week", "number", "period", "phase"]
theorem scHeldIn : FnScope nHi ["beats", "week"] (defScope sHeldIn) := ⟨rfl, rfl, rfl, by decide +kernel, rfl, by decide +kernel, by decide +kernel⟩
theorem def_heldIn (B : Bl mg) (F : At K mg "held_in" sHeldIn ["beats", "week"]) : Def P w K mg base CX0 1 "held_in" ["beats", "week"] (spHeldIn K T) := by
  refine F.ok scHeldIn (fun vs H Q E h => ?_) (fun f cdv A outer s H vs Q E hr h => ?_)
  · obtain ⟨x, b, w, rfl, _⟩ := h
    rfl
  · obtain ⟨x, bs, wk, rfl, hx, ⟨l10, ok⟩, tb, q⟩ := h
    refine ⟨_, pss_one (ps_ret (pe_callTy call_tuple_of (by rfl) B.tup sTup (pa_cons (pe_lc (own := [("number", 2), ("period", 3), ("phase", 4)]) (g := gTup K 2 (gCons (gName 2) (gCons (gTup K 2 (gCons (gName 3) (gCons (gName 4) gNil))) gNil))) rfl scHeldIn.nd (pi_enumT (by rfl) B.enu (pa_cons (pv 0) pa_nil))
        (blkOk_by (N := nHi) (sc := defScope sHeldIn) (by decide +kernel))
        (fun _ _ _ _ _ => pg_tup rfl (pgs_cons (pg_name (i := 2) scHeldIn.nd rfl (Or.inl rfl) (.inr rfl)) (pgs_cons (pg_tup rfl (pgs_cons (pg_name (i := 3) scHeldIn.nd rfl (Or.inl rfl) (.inr rfl)) (pgs_cons (pg_name (i := 4) scHeldIn.nd rfl (Or.inl rfl) (.inr rfl)) pgs_nil))) pgs_nil)))
        (fun _ _ _ _ _ => pts_one (pt_cmpR op_eq (pe_op op_mod (pv 1) (pv 3)) (pv 4) (nomark _)))
        (fun _ _ _ _ _ => pv 2)) pa_nil))), ?_⟩
    obtain ⟨a, xs, rfl, hs, ra⟩ := repTup hx
    have hl := ra.length
    rw [List.length_map] at hl
    refine ⟨_, rfl, a, xs, rfl, hs, fun D hD => ?_⟩
    refine lc_enumT (K := K) (a := a) (xs := xs) (fun k H2 => Gq T H H2 ∧ H2 D = some (.lst ((hIn bs wk k).map fun n => V.int (n : Nat)))) ?_ ?_ ?_ ?_
    · exact ⟨(Gq.refl tb).new hD, upd_same⟩
    · rintro k H2 _ ⟨g, _⟩
      exact sqt_ext g.ext hs
    · rintro k y U H2 hk ⟨g, h2⟩ hU
      obtain ⟨b, eb, rb⟩ := bs_at ra hk
      have kl : k < xs.length := (List.getElem?_eq_some_iff.mp hk).1
      have okb := ok b (List.mem_of_getElem? eb)
      obtain ⟨ba, rfl, hb⟩ := repB rb
      have gU := g.new (o := .tup [.int (k : Nat), .ref ba]) hU
      have hU2 : upd H2 U (.tup [.int (k : Nat), .ref ba]) D = some (.lst ((hIn bs wk k).map fun n => V.int (n : Nat))) := by rw [upd_ne (ne_of_none h2 hU)]; exact h2
      have hb0 := okb.lo
      have hlen := hIn_len bs wk k
      have em : ((wk : Nat) : Int) % ((b.1 : Nat) : Int) = ((wk % b.1 : Nat) : Int) := (Int.natCast_emod wk b.1).symm
      refine ⟨U, _, rfl, .inl (.inl upd_same), rfl, _, _, rfl, _, _, rfl, ba, _, rfl, sqt_ext gU.ext hb, rfl, _, _, rfl, _, _, rfl, rfl, rfl, rfl, ?_⟩
      refine ⟨_, rfl, _, rfl, _, _, rfl, rfl, by omega, _, rfl, rfl, _, rfl, ?_⟩
      have ea : hAt bs wk k = (wk % b.1 == b.2) := by unfold hAt; rw [eb]
      by_cases c : wk % b.1 = b.2
      · refine ifY (decide_eq_true (by show V.int (((wk : Nat) : Int) % ((b.1 : Nat) : Int)) = V.int (b.2 : Nat); rw [em, c])) ?_
        refine ⟨_, rfl, _, hU2, by rw [sizeLine_eq, List.length_map]; omega, gU.wrote hD hU2, ?_⟩
        rw [upd_same, hIn_succ, ea, if_pos (by simp [c]), List.map_append]
        rfl
      · refine ifN (decide_eq_false fun z => c (by have z : V.int (((wk : Nat) : Int) % ((b.1 : Nat) : Int)) = V.int (b.2 : Nat) := z; rw [em] at z; have := V.int.inj z; omega)) ?_
        refine ⟨gU, ?_⟩
        rw [hU2, hIn_succ, ea, if_neg (by simp [c]), List.append_nil]
    · rintro H2 ⟨g, h2⟩
      refine ⟨D, _, rfl, .inl ⟨SqL.of h2, fun U hU => ?_⟩⟩
      rw [hl]
      exact q _ _ (g.new hU) (rep_row upd_same)
def spHeld (K : PySem.W.Frag) (T : List (Addr × Str)) : Sp := spHeldIn K T
theorem scHeld : FnScope ["beats", "week"] ["beats", "week"] (defScope sHeld) := ⟨rfl, rfl, rfl, by decide +kernel, rfl, by decide +kernel, by decide +kernel⟩
theorem def_held (Nb : Def P w K mg base CX0 4 "need_beats" ["beats"] (spNeedBs K T)) (Fr : Def P w K mg base CX0 2 "is_from" ["value", "low"] (spFrom K)) (Hi : Def P w K mg base CX0 1 "held_in" ["beats", "week"] (spHeldIn K T)) (F : At K mg "held" sHeld ["beats", "week"]) : Def P w K mg base CX0 5 "held" ["beats", "week"] (spHeldIn K T) := by
  refine F.ok scHeld (fun vs H Q E h => ?_) (fun f cdv A outer s H vs Q E hr h => ?_)
  · obtain ⟨x, b, w, rfl, _⟩ := h
    rfl
  · obtain ⟨x, bs, wk, rfl, hx, ok, tb, q⟩ := h
    refine ⟨_, pss_cons (ps_expr (pe_def Nb hr (by rfl) pass0 (pa_cons (pv 0) pa_nil)))
      (pss_cons (ps_if (pt_not (pt_val (pe_def Fr (hr.mono (by decide)) (by rfl) pass0 (pa_cons (pv 1) (pa_cons pe_int pa_nil))))) (pss_one ps_never) pss_nil)
      (pss_one (ps_ret (pe_def Hi (hr.mono (by decide)) (by rfl) pass0 (pa_cons (pv 0) (pa_cons (pv 1) pa_nil)))))), ?_⟩
    refine ⟨_, rfl, x, bs, rfl, hx, ok, tb, fun H1 g1 => ?_⟩
    refine ⟨_, rfl, _, .int (wk : Nat), 0, rfl, .int _, ?_⟩
    have e : fromI (.int (wk : Nat)) 0 = true := by simp [fromI]
    rw [e]
    exact ⟨_, rfl, _, rfl, _, rfl, x, bs, wk, rfl, g1.rep hx, ok, g1.tb, fun v H2 g2 rv => q v H2 (g1.trans g2) rv⟩
def spLeave (K : PySem.W.Frag) : Sp := fun vs H Q _ => ∃ (x y : V) (a b : Bt) (k : Nat), vs = [x, y, .int (k : Nat)] ∧ Rep K H x (dB a) ∧ Rep K H y (dB b) ∧ BtOk a ∧ BtOk b ∧
  Q (.bl (decide (((b.2 : Int) - a.2 - k) % ((Nat.gcd a.1 b.1 : Nat) : Int) = 0))) H
def spPairT (k : Nat) (K : PySem.W.Frag) : Sp := fun vs H Q _ => ∃ (x y : V) (a b : Bt), vs = [x, y] ∧ Rep K H x (dB a) ∧ Rep K H y (dB b) ∧ BtOk a ∧ BtOk b ∧
  Q (.bl (decide (((b.2 : Int) - a.2 - k) % ((Nat.gcd a.1 b.1 : Nat) : Int) = 0))) H
theorem scLeave : FnScope ["one", "other", "later"] ["one", "other", "later"] (defScope sLeave) := ⟨rfl, rfl, rfl, by decide +kernel, rfl, by decide +kernel, by decide +kernel⟩
theorem def_leave (mGcd : mg "gcd" = some (.builtin "math.gcd")) (F : At K mg "leave_alike" sLeave ["one", "other", "later"]) : Def P w K mg base CX0 1 "leave_alike" ["one", "other", "later"] (spLeave K) := by
  refine F.ok scLeave (fun vs H Q E h => ?_) (fun f cdv A outer s H vs Q E hr h => ?_)
  · obtain ⟨x, y, a, b, k, rfl, _⟩ := h
    rfl
  · obtain ⟨x, y, a, b, k, rfl, hx, hy, oa, ob, q⟩ := h
    refine ⟨_, pss_one (ps_ret (pe_cmpR op_eq (pe_op op_mod (pe_op op_sub (pe_op op_sub (pe_ix ix_tup (pv 1) pe_int (fun _ _ => rfl)) (pe_ix ix_tup (pv 0) pe_int (fun _ _ => rfl))) (pv 2))
      (pe_callBfun cr_gcd (by rfl) mGcd (pa_cons (pe_ix ix_tup (pv 0) pe_int (fun _ _ => rfl)) (pa_cons (pe_ix ix_tup (pv 1) pe_int (fun _ _ => rfl)) pa_nil)))) pe_int (nomark _))), ?_⟩
    obtain ⟨xa, rfl, ha⟩ := repB hx
    obtain ⟨ya, rfl, hb⟩ := repB hy
    have l1 := oa.lo
    have g0 : 0 < Nat.gcd a.1 b.1 := Nat.gcd_pos_of_pos_left _ (by omega)
    refine ⟨_, rfl, ya, _, _, _, rfl, rfl, hb, (atI_nat (j := 1) rfl), _, rfl, xa, _, _, _, rfl, rfl, ha, (atI_nat (j := 1) rfl), _, _, rfl, rfl, _, rfl, _, _, rfl, rfl, ?_⟩
    refine ⟨_, rfl, xa, _, _, _, rfl, rfl, ha, (atI_nat (j := 0) rfl), _, rfl, ya, _, _, _, rfl, rfl, hb, (atI_nat (j := 0) rfl), _, _, rfl, ?_⟩
    refine ⟨_, _, rfl, rfl, by show (0 : Int) < ((Nat.gcd a.1 b.1 : Nat) : Int); omega, rfl, ?_⟩
    have e : decide (V.int (((b.2 : Int) - a.2 - k) % ((Nat.gcd a.1 b.1 : Nat) : Int)) = V.int 0) = decide (((b.2 : Int) - a.2 - k) % ((Nat.gcd a.1 b.1 : Nat) : Int) = 0) := by
      by_cases z : ((b.2 : Int) - a.2 - k) % ((Nat.gcd a.1 b.1 : Nat) : Int) = 0
      · rw [z]
        rfl
      · rw [decide_eq_false z]
        exact decide_eq_false fun q => z (V.int.inj q)
    rw [← e] at q
    exact q
theorem scMeets : FnScope ["one", "other"] ["one", "other"] (defScope sMeets) := ⟨rfl, rfl, rfl, by decide +kernel, rfl, by decide +kernel, by decide +kernel⟩
theorem def_meets (Nb : Def P w K mg base CX0 4 "need_beat" ["value"] (spSame K)) (Le : Def P w K mg base CX0 1 "leave_alike" ["one", "other", "later"] (spLeave K)) (F : At K mg "meets" sMeets ["one", "other"]) : Def P w K mg base CX0 5 "meets" ["one", "other"] (spPairT 0 K) := by
  refine F.ok scMeets (fun vs H Q E h => ?_) (fun f cdv A outer s H vs Q E hr h => ?_)
  · obtain ⟨x, y, a, b, rfl, _⟩ := h
    rfl
  · obtain ⟨x, y, a, b, rfl, hx, hy, oa, ob, q⟩ := h
    refine ⟨_, pss_one (ps_ret (pe_def Le (hr.mono (by decide)) (by rfl) pass0 (pa_cons (pe_def Nb hr (by rfl) pass0 (pa_cons (pv 0) pa_nil)) (pa_cons (pe_def Nb hr (by rfl) pass0 (pa_cons (pv 1) pa_nil)) (pa_cons pe_int pa_nil))))), ?_⟩
    exact ⟨_, rfl, x, a, rfl, hx, oa, _, rfl, y, b, rfl, hy, ob, x, y, a, b, 0, rfl, hx, hy, oa, ob, q⟩
end
end K2
set_option Elab.async false
set_option linter.all false
set_option maxRecDepth 100000
set_option maxHeartbeats 4000000
/-! M1: rounds: the mathematics. -/
namespace K2
open PySem PySem.Spec PyProof.Rows L2 BK LamX
/-- the round of the first i periods -/
def lcT (ps : List Nat) : Nat → Nat
  | 0 => 1
  | i + 1 => Nat.lcm (lcT ps i) (ps.getD i 1)
def pds (bs : List Bt) : List Nat := bs.map (·.1)
def lcA (bs : List Bt) : Nat := lcT (pds bs) bs.length
def LcOk (ps : List Nat) : Prop := ∀ i, i < ps.length → lcT ps i < 1000 ∧ ps.getD i 1 < 1000
theorem getD_at {ps : List Nat} {i p : Nat} (h : ps[i]? = some p) : ps.getD i 1 = p := by rw [List.getD_eq_getElem?_getD, h]; rfl
theorem pds_at {bs : List Bt} {i : Nat} {b : Bt} (h : bs[i]? = some b) : (pds bs).getD i 1 = b.1 := getD_at (by unfold pds; rw [List.getElem?_map, h]; rfl)
theorem pds_len (bs : List Bt) : (pds bs).length = bs.length := List.length_map _
theorem lcT_dvd {ps : List Nat} : ∀ {i j : Nat}, j < i → ps.getD j 1 ∣ lcT ps i
  | 0, _, h => absurd h (Nat.not_lt_zero _)
  | i + 1, j, h => by
    rcases Nat.lt_or_eq_of_le (Nat.lt_succ_iff.mp h) with z | z
    · exact Nat.dvd_trans (lcT_dvd z) (Nat.dvd_lcm_left _ _)
    · rw [z]
      exact Nat.dvd_lcm_right _ _
theorem lcT_least {ps : List Nat} {M : Nat} : ∀ {i : Nat}, (∀ j, j < i → ps.getD j 1 ∣ M) → lcT ps i ∣ M
  | 0, _ => Nat.one_dvd M
  | i + 1, h => Nat.lcm_dvd (lcT_least fun j hj => h j (Nat.lt_succ_of_lt hj)) (h i (Nat.lt_succ_self i))
theorem lcA_dvd {bs : List Bt} {b : Bt} (h : b ∈ bs) : b.1 ∣ lcA bs := by
  obtain ⟨i, hi, e⟩ := List.mem_iff_getElem.mp h
  have e' : bs[i]? = some b := by rw [List.getElem?_eq_getElem hi, e]
  have := lcT_dvd (ps := pds bs) hi
  rw [pds_at e'] at this
  exact this
theorem lcA_least {bs : List Bt} {M : Nat} (h : ∀ b ∈ bs, b.1 ∣ M) : lcA bs ∣ M := by
  refine lcT_least fun j hj => ?_
  rw [pds_at (List.getElem?_eq_getElem hj)]
  exact h _ (List.getElem_mem hj)
theorem lcA_pos {bs : List Bt} (h : ∀ b ∈ bs, BtOk b) : 0 < lcA bs := by
  have : ∀ i, i ≤ bs.length → 0 < lcT (pds bs) i := by
    intro i
    induction i with
    | zero => intro _; exact Nat.one_pos
    | succ i ih =>
      intro hi
      refine Nat.lcm_pos (ih (by omega)) ?_
      rw [pds_at (List.getElem?_eq_getElem (show i < bs.length by omega))]
      exact (h _ (List.getElem_mem _)).lo
  exact this _ (Nat.le_refl _)
/-- of periods that all divide a small number -/
def Divs (bs : List Bt) : Prop := ∃ M, 0 < M ∧ M ≤ 30 ∧ ∀ b ∈ bs, b.1 ∣ M
theorem Divs.few {bs : List Bt} (d : Divs bs) : lcA bs ≤ 30 := by
  obtain ⟨M, m0, m1, h⟩ := d
  exact Nat.le_trans (Nat.le_of_dvd m0 (lcA_least h)) m1
theorem Divs.ok {bs : List Bt} (d : Divs bs) (ok : BtsOk bs) : LcOk (pds bs) := by
  obtain ⟨M, m0, m1, h⟩ := d
  rintro i hi
  rw [pds_len] at hi
  have d : lcT (pds bs) i ∣ M := lcT_least fun j hj => by
    rw [pds_at (List.getElem?_eq_getElem (show j < bs.length by omega))]
    exact h _ (List.getElem_mem _)
  refine ⟨Nat.lt_of_le_of_lt (Nat.le_of_dvd m0 d) (by omega), ?_⟩
  rw [pds_at (List.getElem?_eq_getElem hi)]
  have := (ok.2 _ (List.getElem_mem hi)).hi
  omega
/-- all that is held comes back after the round -/
theorem hIn_mod {bs : List Bt} {L w n : Nat} (h : ∀ b ∈ bs, b.1 ∣ L) : hIn bs (w % L) n = hIn bs w n := by
  unfold hIn
  refine List.filter_congr fun i _ => ?_
  unfold hAt
  cases e : bs[i]? with
  | none => rfl
  | some b =>
    show (w % L % b.1 == b.2) = (w % b.1 == b.2)
    rw [Nat.mod_mod_of_dvd w (h b (List.mem_of_getElem? e))]
/-- the most that are held in one of the first L weeks -/
structure IsTop (bs : List Bt) (L m : Nat) : Prop where
  inn : ∃ w, w < L ∧ m = (hIn bs w bs.length).length
  all : ∀ w, w < L → (hIn bs w bs.length).length ≤ m
theorem IsTop.eq {bs : List Bt} {L m n : Nat} (a : IsTop bs L m) (b : IsTop bs L n) : m = n := by
  obtain ⟨w, h1, e1⟩ := a.inn
  obtain ⟨v, h2, e2⟩ := b.inn
  have := a.all v h2
  have := b.all w h1
  omega
theorem IsTop.le {bs : List Bt} {L m : Nat} (a : IsTop bs L m) : m ≤ bs.length := by
  obtain ⟨w, _, e⟩ := a.inn
  have := hIn_len bs w bs.length
  omega
/-- two of them meet -/
def Meet (a b : Bt) : Prop := ∃ w, w % a.1 = a.2 ∧ w % b.1 = b.2
theorem meet_dec {a b : Bt} (ha : BtOk a) (hb : BtOk b) : ((b.2 : Int) - a.2 - ((0 : Nat) : Int)) % ((Nat.gcd a.1 b.1 : Nat) : Int) = 0 ↔ Meet a b := by
  constructor
  · intro h
    obtain ⟨w, _, h1, h2⟩ := meet_of (k := 0) (by have := ha.lo; omega) (by have := ha.hi; omega) (by have := hb.lo; omega) (by have := hb.hi; omega) ha.ph hb.ph h
    exact ⟨w, h1, h2⟩
  · rintro ⟨w, h1, h2⟩
    exact meet_to (k := 0) h1 h2
/-- no two meet -/
def Apart (bs : List Bt) : Prop := ∀ (i j : Nat) (a b : Bt), j < i → bs[i]? = some a → bs[j]? = some b → ¬ Meet a b
theorem mem_hIn {bs : List Bt} {w n i : Nat} : i ∈ hIn bs w n ↔ i < n ∧ hAt bs w i = true := by
  unfold hIn
  rw [List.mem_filter, List.mem_range]
theorem hAt_iff {bs : List Bt} {w i : Nat} {b : Bt} (h : bs[i]? = some b) : hAt bs w i = true ↔ w % b.1 = b.2 := by
  unfold hAt
  rw [h]
  simp
theorem two_of : ∀ {l : List Nat}, l.Pairwise (· < ·) → 1 < l.length → ∃ i j, j < i ∧ i ∈ l ∧ j ∈ l
  | a :: b :: l, h, _ => ⟨b, a, (List.pairwise_cons.mp h).1 b List.mem_cons_self, List.mem_cons_of_mem _ List.mem_cons_self, List.mem_cons_self⟩
  | [_], _, h => by simp at h
  | [], _, h => by simp at h
theorem len_two {l : List Nat} {i j : Nat} (hi : i ∈ l) (hj : j ∈ l) (ne : j < i) : 1 < l.length := by
  match l, hi, hj with
  | [], h, _ => cases h
  | [a], h1, h2 =>
    have e1 := List.mem_singleton.mp h1
    have e2 := List.mem_singleton.mp h2
    omega
  | _ :: _ :: _, _, _ => simp
theorem top_apart {bs : List Bt} {L m : Nat} (ok : ∀ b ∈ bs, BtOk b) (d : ∀ b ∈ bs, b.1 ∣ L) (l0 : 0 < L) (t : IsTop bs L m) : m ≤ 1 ↔ Apart bs := by
  constructor
  · rintro h i j a b ji ea eb ⟨w, h1, h2⟩
    have hw := t.all (w % L) (Nat.mod_lt _ l0)
    rw [hIn_mod d] at hw
    have i1 : i ∈ hIn bs w bs.length := mem_hIn.mpr ⟨(List.getElem?_eq_some_iff.mp ea).1, (hAt_iff ea).mpr h1⟩
    have i2 : j ∈ hIn bs w bs.length := mem_hIn.mpr ⟨(List.getElem?_eq_some_iff.mp eb).1, (hAt_iff eb).mpr h2⟩
    have := len_two i1 i2 ji
    omega
  · intro h
    obtain ⟨w, _, e⟩ := t.inn
    refine Nat.le_of_not_lt fun c => ?_
    rw [e] at c
    obtain ⟨i, j, ji, hi, hj⟩ := two_of ((List.pairwise_lt_range (n := bs.length)).filter (hAt bs w)) c
    obtain ⟨i1, i2⟩ := mem_hIn.mp hi
    obtain ⟨j1, j2⟩ := mem_hIn.mp hj
    have ea := List.getElem?_eq_getElem i1
    have eb := List.getElem?_eq_getElem j1
    exact h i j _ _ ji ea eb ⟨w, (hAt_iff ea).mp i2, (hAt_iff eb).mp j2⟩
end K2
set_option Elab.async false
set_option linter.all false
set_option maxRecDepth 100000
set_option maxHeartbeats 4000000
/-! C1: the program: rounds. -/
namespace K2
open PySem PySem.Spec PyProof.Rows L2 BK LamX
/-- too great -/
def Big (T : List (Addr × Str)) (TG : Addr) (H : Hp) (E : XK) : Prop := ∀ H' dd, Gq T H H' → H' dd = some (.xd [("most", .int 2520)]) → E (.ref TG) (some dd) H'
theorem Big.on {T : List (Addr × Str)} {TG : Addr} {H H1 : Hp} {E : XK} (b : Big T TG H E) (g : Gq T H H1) : Big T TG H1 E := fun H' dd g' h => b H' dd (g.trans g') h
/-- the round is told, or it is too great -/
structure Rnd (T : List (Addr × Str)) (TG : Addr) (bs : List Bt) (H : Hp) (E : XK) (C : Prop) : Prop where
  no : 2520 < lcA bs → Big T TG H E
  yes : lcA bs ≤ 2520 → C
structure Bsx (K : PySem.W.Frag) (T : List (Addr × Str)) (x : V) (bs : List Bt) (H : Hp) : Prop where
  rep : Rep K H x (dBs bs)
  ok : BtsOk bs
  lc : LcOk (pds bs)
  tb : Tabs T H
theorem Bsx.on {K : PySem.W.Frag} {T : List (Addr × Str)} {x : V} {bs : List Bt} {H H1 : Hp} (b : Bsx K T x bs H) (g : Gq T H H1) : Bsx K T x bs H1 := ⟨g.rep b.rep, b.ok, b.lc, g.tb⟩
def dRows (bs : List Bt) (L : Nat) : PyData := .tuple ((List.range L).map fun w => dN (hIn bs w bs.length))
def spWeeks (K : PySem.W.Frag) (T : List (Addr × Str)) (TG : Addr) : Sp := fun vs H Q E => ∃ (a : Addr) (bs : List Bt), vs = [.ref a] ∧ SqL K H a ((pds bs).map fun n => V.int (n : Nat)) ∧ LcOk (pds bs) ∧ Tabs T H ∧
  Rnd T TG bs H E (∀ H', Gq T H H' → Q (.int (lcA bs : Nat)) H')
def spRound (K : PySem.W.Frag) (T : List (Addr × Str)) (TG : Addr) : Sp := fun vs H Q E => ∃ (x : V) (bs : List Bt), vs = [x] ∧ Bsx K T x bs H ∧ Rnd T TG bs H E (∀ H', Gq T H H' → Q (.int (lcA bs : Nat)) H')
def spUnr (K : PySem.W.Frag) (T : List (Addr × Str)) (TG : Addr) : Sp := fun vs H Q E => ∃ (x : V) (bs : List Bt), vs = [x] ∧ Bsx K T x bs H ∧ Rnd T TG bs H E (∀ v H', Gq T H H' → Rep K H' v (dRows bs (lcA bs)) → Q v H')
def spMost (K : PySem.W.Frag) (T : List (Addr × Str)) (TG : Addr) : Sp := fun vs H Q E => ∃ (x : V) (bs : List Bt), vs = [x] ∧ Bsx K T x bs H ∧ Rnd T TG bs H E (∀ (m : Nat) H', Gq T H H' → IsTop bs (lcA bs) m → Q (.int (m : Nat)) H')
def spFits (K : PySem.W.Frag) (T : List (Addr × Str)) (TG : Addr) : Sp := fun vs H Q E => ∃ (x : V) (bs : List Bt) (r : Nat), vs = [x, .int (r : Nat)] ∧ r ≤ 40 ∧ Bsx K T x bs H ∧ Rnd T TG bs H E (∀ (m : Nat) H', Gq T H H' → IsTop bs (lcA bs) m → Q (.bl (decide (m ≤ r))) H')
def spNeedR : Sp := fun vs H Q _ => ∃ (r : Nat), vs = [.int (r : Nat)] ∧ r ≤ 40 ∧ Q (.int (r : Nat)) H
section
variable {P : Program} {w : World} {K : PySem.W.Frag} {mg : Str → Option Value} {base : Heap} {T : List (Addr × Str)} {TG : Addr}
theorem scNeedR : FnScope ["rooms"] ["rooms"] (defScope sNeedRooms) := ⟨rfl, rfl, rfl, by decide +kernel, rfl, by decide +kernel, by decide +kernel⟩
theorem def_needR (m40 : ∃ t, mg "MOST_ROOMS" = some (.int 40 t)) (W : Def P w K mg base CX0 2 "is_within" ["value", "low", "high"] (spWithin K)) (F : At K mg "need_rooms" sNeedRooms ["rooms"]) : Def P w K mg base CX0 3 "need_rooms" ["rooms"] spNeedR := by
  refine F.ok scNeedR (fun vs H Q E h => ?_) (fun f cdv A outer s H vs Q E hr h => ?_)
  · obtain ⟨r, rfl, _⟩ := h
    rfl
  · obtain ⟨r, rfl, h40, q⟩ := h
    obtain ⟨t, m⟩ := m40
    refine ⟨_, pss_cons (ps_if (pt_not (pt_val (pe_def W hr (by rfl) pass0 (pa_cons (pv 0) (pa_cons pe_int (pa_cons (pe_glob (v := .int 40) (by rfl) m ⟨_, rfl⟩) pa_nil)))))) (pss_one ps_never) pss_nil) (pss_one (ps_ret (pv 0))), ?_⟩
    refine ⟨_, rfl, _, .int (r : Nat), 0, 40, rfl, .int _, ?_⟩
    have e1 : within (.int (r : Nat)) 0 40 = true := by
      simp only [within, Bool.and_eq_true, decide_eq_true_eq]
      omega
    rw [e1]
    exact ⟨_, rfl, _, rfl, q⟩
theorem scWeeks : FnScope ["periods", "weeks", "period"] ["periods"] (defScope sWeeksOf) := ⟨rfl, rfl, rfl, by decide +kernel, rfl, by decide +kernel, by decide +kernel⟩
theorem def_weeks (eG : ErrV P w K mg base "TooGreat" "most" TG) (mLcm : mg "lcm" = some (.builtin "math.lcm")) (m2520 : ∃ t, mg "MOST_WEEKS" = some (.int 2520 t)) (F : At K mg "weeks_of" sWeeksOf ["periods"]) : Def P w K mg base (L2.CX P w) 3 "weeks_of" ["periods"] (spWeeks K T TG) := by
  refine F.okX scWeeks (fun vs H Q E h => ?_) (fun f cdv A outer s H vs Q E hr h => ?_)
  · obtain ⟨a, bs, rfl, _⟩ := h
    rfl
  · obtain ⟨a, bs, rfl, hs, lc, tb, rn⟩ := h
    obtain ⟨t, m⟩ := m2520
    refine ⟨_, pss_cons (ps_set (i := 1) scWeeks.nd rfl (Or.inl rfl) pe_int)
      (pss_cons (ps_for (passes_of rfl) rfl (pi_list (pv 0)) (pg_name (i := 2) scWeeks.nd rfl (Or.inl rfl))
        (pss_one (ps_set (i := 1) scWeeks.nd rfl (Or.inl rfl) (pe_callBfun cr_lcm (by rfl) mLcm (pa_cons (pv 1) (pa_cons (pv 2) pa_nil))))))
      (pss_cons (ps_if (pt_cmpR op_gt (pv 1) (pe_glob (v := .int 2520) (by rfl) m ⟨_, rfl⟩) (nomark _))
        (pss_one (ps_raiseV eG rfl (takes_of rfl rfl rfl rfl) (hr.mono (by decide)) (by rfl) (pa_cons (pe_glob (v := .int 2520) (by rfl) m ⟨_, rfl⟩) pa_nil))) pss_nil)
      (pss_one (ps_ret (pv 1))))), ?_⟩
    refine ⟨_, rfl, a, rfl, ⟨_, hs⟩, ?_⟩
    refine for_list (K := K) (a := a) (xs := (pds bs).map fun n => V.int (n : Nat)) (fun i σ H' => ∃ s2 : Option V, H' = H ∧ σ = [some (.ref a), some (.int (lcT (pds bs) i : Nat)), s2]) ?_ ?_ ?_ ?_
    · exact ⟨none, rfl, rfl⟩
    · rintro i σ H' _ ⟨_, rfl, _⟩
      exact hs
    · rintro i x σ H' hi ⟨s2, rfl, rfl⟩
      obtain ⟨p, hp, rfl⟩ := nat_at hi
      have il := (List.getElem?_eq_some_iff.mp hp).1
      obtain ⟨c1, c2⟩ := lc i il
      have e := getD_at hp
      rw [e] at c2
      refine ⟨_, rfl, _, rfl, lcT (pds bs) i, p, rfl, c1, c2, some (.int (p : Nat)), rfl, ?_⟩
      show _ = [_, some (V.int (Nat.lcm (lcT (pds bs) i) ((pds bs).getD i 1) : Nat)), _]
      rw [e]
      rfl
    · rintro σ H' ⟨s2, rfl, rfl⟩
      rw [List.length_map, pds_len]
      refine ⟨_, rfl, _, _, rfl, rfl, _, rfl, ?_⟩
      by_cases c : 2520 < lcA bs
      · refine ifY (decide_eq_true (by show (2520 : Int) < ((lcA bs : Nat) : Int); omega)) ?_
        exact mk_err fun dd hdd => rn.no c _ dd ((Gq.refl tb).new hdd) upd_same
      · refine ifN (decide_eq_false (by show ¬ (2520 : Int) < ((lcA bs : Nat) : Int); omega)) ?_
        exact ⟨_, rfl, rn.yes (by omega) _ (Gq.refl tb)⟩
theorem it_N {k : Nat} (l : List Nat) : IT (k + 1) (dN l) := .tup fun d hd => by
  obtain ⟨n, _, rfl⟩ := List.mem_map.mp hd
  exact .int k _
theorem rows_succ (bs : List Bt) (k : Nat) : (List.range (k + 1)).map (fun w => dN (hIn bs w bs.length)) = (List.range k).map (fun w => dN (hIn bs w bs.length)) ++ [dN (hIn bs k bs.length)] := by
  rw [List.range_succ, List.map_append]
  rfl
theorem it_rows {bs : List Bt} {k : Nat} : ∀ d ∈ (List.range k).map (fun w => dN (hIn bs w bs.length)), ∃ k, IT k d := fun d hd => by
  obtain ⟨u, _, rfl⟩ := List.mem_map.mp hd
  exact ⟨1, it_N _⟩
def nWb : List Str := ["beats", "period", "_"]
theorem scWeeksB : FnScope nWb ["beats"] (defScope sWeeksB) := ⟨rfl, rfl, rfl, by decide +kernel, rfl, by decide +kernel, by decide +kernel⟩
theorem def_weeksB (W : Def P w K mg base (L2.CX P w) 3 "weeks_of" ["periods"] (spWeeks K T TG)) (F : At K mg "weeks_of_beats" sWeeksB ["beats"]) : Def P w K mg base (L2.CX P w) 4 "weeks_of_beats" ["beats"] (spRound K T TG) := by
  refine F.okX scWeeksB (fun vs H Q E h => ?_) (fun f cdv A outer s H vs Q E hr h => ?_)
  · obtain ⟨x, bs, rfl, _⟩ := h
    rfl
  · obtain ⟨x, bs, rfl, bx, rn⟩ := h
    refine ⟨_, pss_one (ps_ret (pe_def (E := E) W hr (by rfl) (passes_call (takes_of rfl rfl rfl rfl) fun _ _ _ _ h => h) (pa_cons (pe_lc (own := [("period", 1), ("_", 2)]) (g := gTup K 2 (gCons (gName 1) (gCons (gName 2) gNil))) (tt := tYes) rfl scWeeksB.nd (pi_tup (pv 0))
        (blkOk_by (N := nWb) (sc := defScope sWeeksB) (by decide +kernel))
        (fun _ _ _ _ _ => pg_tup rfl (pgs_cons (pg_name (i := 1) scWeeksB.nd rfl (Or.inl rfl) (.inr rfl)) (pgs_cons (pg_name (i := 2) scWeeksB.nd rfl (Or.inl rfl) (.inr rfl)) pgs_nil)))
        (fun _ _ _ _ _ => pts_nil) (fun _ _ _ _ _ => pv 1)) pa_nil))), ?_⟩
    obtain ⟨a, xs, rfl, hs, ra⟩ := repTup bx.rep
    have xl := ra.length
    rw [List.length_map] at xl
    have l10 := bx.ok.1
    refine ⟨_, rfl, a, rfl, ⟨xs, hs⟩, fun D hD => ?_⟩
    refine lc_tup (K := K) (a := a) (xs := xs) (fun k H2 => Gq T H H2 ∧ H2 D = some (.lst (((pds bs).take k).map fun n => V.int (n : Nat)))) ?_ ?_ ?_ ?_
    · exact ⟨(Gq.refl bx.tb).new hD, upd_same⟩
    · rintro i H2 _ ⟨g, _⟩
      exact sqt_ext g.ext hs
    · rintro i x H2 hi ⟨g, h2⟩
      obtain ⟨b, eb, rb⟩ := bs_at ra hi
      have il : i < bs.length := (List.getElem?_eq_some_iff.mp eb).1
      obtain ⟨ba, rfl, hb⟩ := repB rb
      refine ⟨ba, _, rfl, sqt_ext g.ext hb, rfl, _, _, rfl, _, _, rfl, rfl, rfl, yes ?_⟩
      rw [if_pos rfl]
      refine ⟨_, rfl, _, h2, by rw [sizeLine_eq, List.length_map, List.length_take, pds_len]; omega, g.wrote hD h2, ?_⟩
      rw [upd_same, List.take_add_one, List.map_append]
      have : (pds bs)[i]? = some b.1 := by unfold pds; rw [List.getElem?_map, eb]; rfl
      rw [this]
      rfl
    · rintro H2 ⟨g, h2⟩
      rw [show xs.length = (pds bs).length by rw [xl, pds_len], List.take_length] at h2
      exact ⟨D, bs, rfl, SqL.of h2, bx.lc, g.tb, fun c => (rn.no c).on g, fun c H3 g3 => rn.yes c H3 (g.trans g3)⟩
theorem scRoundL : FnScope ["beats"] ["beats"] (defScope sRoundL) := ⟨rfl, rfl, rfl, by decide +kernel, rfl, by decide +kernel, by decide +kernel⟩
theorem def_roundL (Nb : Def P w K mg base CX0 4 "need_beats" ["beats"] (spNeedBs K T)) (W : Def P w K mg base (L2.CX P w) 4 "weeks_of_beats" ["beats"] (spRound K T TG)) (F : At K mg "round_length" sRoundL ["beats"]) : Def P w K mg base (L2.CX P w) 5 "round_length" ["beats"] (spRound K T TG) := by
  refine F.okX scRoundL (fun vs H Q E h => ?_) (fun f cdv A outer s H vs Q E hr h => ?_)
  · obtain ⟨x, bs, rfl, _⟩ := h
    rfl
  · obtain ⟨x, bs, rfl, bx, rn⟩ := h
    refine ⟨_, pss_one (ps_ret (pe_def (E := E) W hr (by rfl) (passes_call (takes_of rfl rfl rfl rfl) fun _ _ _ _ h => h) (pa_cons (pe_def Nb hr (by rfl) pass0 (pa_cons (pv 0) pa_nil)) pa_nil))), ?_⟩
    exact ⟨_, rfl, x, bs, rfl, bx.rep, bx.ok, bx.tb, fun H1 g => ⟨x, bs, rfl, bx.on g, fun c => (rn.no c).on g, fun c H3 g3 => rn.yes c H3 (g.trans g3)⟩⟩
def nUn : List Str := ["beats", "week"]
theorem scUnr : FnScope nUn ["beats"] (defScope sUnrolled) := ⟨rfl, rfl, rfl, by decide +kernel, rfl, by decide +kernel, by decide +kernel⟩
theorem def_unr (B : Bl mg) (Nb : Def P w K mg base CX0 4 "need_beats" ["beats"] (spNeedBs K T)) (W : Def P w K mg base (L2.CX P w) 4 "weeks_of_beats" ["beats"] (spRound K T TG)) (Hi : Def P w K mg base CX0 1 "held_in" ["beats", "week"] (spHeldIn K T))
    (F : At K mg "unrolled" sUnrolled ["beats"]) : Def P w K mg base (L2.CX P w) 5 "unrolled" ["beats"] (spUnr K T TG) := by
  refine F.okX scUnr (fun vs H Q E h => ?_) (fun f cdv A outer s H vs Q E hr h => ?_)
  · obtain ⟨x, bs, rfl, _⟩ := h
    rfl
  · obtain ⟨x, bs, rfl, bx, rn⟩ := h
    refine ⟨_, pss_cons (ps_expr (pe_def Nb hr (by rfl) pass0 (pa_cons (pv 0) pa_nil)))
      (pss_one (ps_ret (pe_callTy call_tuple_of (by rfl) B.tup sTup (pa_cons (pe_lc (own := [("week", 1)]) (g := gName 1) (tt := tYes) rfl scUnr.nd
          (pi_range1 (by rfl) B.rng (pa_cons (pe_def (E := E) W hr (by rfl) (passes_call (takes_of rfl rfl rfl rfl) fun _ _ _ _ h => h) (pa_cons (pv 0) pa_nil)) pa_nil))
          (blkOk_by (N := nUn) (sc := defScope sUnrolled) (by decide +kernel)) (fun _ _ _ _ _ => pg_name (i := 1) scUnr.nd rfl (Or.inl rfl)) (fun _ _ _ _ _ => pts_nil)
          (fun _ _ _ _ _ => pe_def Hi (hr.mono (by decide)) (by rfl) pass0 (pa_cons (pv 0) (pa_cons (pv 1) pa_nil)))) pa_nil)))), ?_⟩
    refine ⟨_, rfl, x, bs, rfl, bx.rep, bx.ok, bx.tb, fun H1 g1 => ?_⟩
    have b1 := bx.on g1
    refine ⟨_, rfl, x, bs, rfl, b1, fun c => (rn.no c).on g1, fun c H2 g2 => ?_⟩
    have b2 := b1.on g2
    refine ⟨_, rfl, by omega, by omega, fun D hD => ?_⟩
    refine lc_range (lo := 0) (n := lcA bs) (fun k H3 => ∃ xs, Gq T H2 H3 ∧ H3 D = some (.lst xs) ∧ RepAll K H3 xs ((List.range k).map fun w => dN (hIn bs w bs.length))) ?_ ?_ ?_
    · exact ⟨[], (Gq.refl b2.tb).new hD, upd_same, .nil⟩
    · rintro k H3 hk ⟨xs, g3, h3, rx⟩
      refine ⟨rfl, yes ?_⟩
      rw [if_pos rfl]
      have b3 := b2.on g3
      rw [show (0 : Int) + (k : Nat) = ((k : Nat) : Int) by omega]
      refine ⟨_, rfl, _, rfl, x, bs, k, rfl, b3.rep, b3.ok, b3.tb, fun v H4 g4 rv => ?_⟩
      have h4 := g4.ext D _ h3 fun ps z => by cases z
      have xl := rx.length
      rw [List.length_map, List.length_range] at xl
      refine ⟨xs, h4, by rw [sizeLine_eq]; omega, xs ++ [v], (g3.trans g4).wrote hD h4, upd_same, ?_⟩
      rw [rows_succ]
      refine rep_wrote h4 ((rx.ext g4.ext).append (.cons rv .nil)) fun d hd => ?_
      rcases List.mem_append.mp hd with z | z
      · exact it_rows d z
      · rw [List.mem_singleton.mp z]
        exact ⟨1, it_N _⟩
    · rintro H3 ⟨xs, g3, h3, rx⟩
      refine ⟨D, _, rfl, .inl ⟨SqL.of h3, fun U hU => ?_⟩⟩
      exact rn.yes c (.ref U) _ (((g1.trans g2).trans g3).new hU) (.tup (SqT.of upd_same) (rx.ext (ext_new hU)))
end
end K2
set_option Elab.async false
set_option linter.all false
set_option maxRecDepth 100000
set_option maxHeartbeats 4000000
/-! C2: the program: the most at once; does it fit. -/
namespace K2
open PySem PySem.Spec PyProof.Rows L2 BK LamX
section
variable {P : Program} {w : World} {K : PySem.W.Frag} {mg : Str → Option Value} {base : Heap} {T : List (Addr × Str)} {TG : Addr}
theorem call_lenK {X : Cx} (hK : X.K = K) : CallR X (.builtin "len") (fun xs H Q => ∃ p ys, xs = [V.ref p] ∧ (SqL K H p ys ∨ SqT K H p ys) ∧ Q (V.int (ys.length : Nat)) H) := hK ▸ call_len_seq
def nMo : List Str := ["beats", "week"]
theorem scMost : FnScope nMo ["beats"] (defScope sMostAt) := ⟨rfl, rfl, rfl, by decide +kernel, rfl, by decide +kernel, by decide +kernel⟩
theorem top_of {bs : List Bt} {L : Nat} {m : Int} (h1 : m ∈ (List.range L).map fun w => (((hIn bs w bs.length).length : Nat) : Int)) (h2 : ∀ y ∈ (List.range L).map fun w => (((hIn bs w bs.length).length : Nat) : Int), y ≤ m) : ∃ n : Nat, m = (n : Int) ∧ IsTop bs L n := by
  obtain ⟨w, hw, rfl⟩ := List.mem_map.mp h1
  refine ⟨_, rfl, ⟨w, List.mem_range.mp hw, rfl⟩, fun v hv => ?_⟩
  have := h2 _ (List.mem_map.mpr ⟨v, List.mem_range.mpr hv, rfl⟩)
  omega
theorem lens_map (bs : List Bt) (L : Nat) : ((List.range L).map fun w => (((hIn bs w bs.length).length : Nat) : Int)).map V.int = (List.range L).map fun w => V.int (((hIn bs w bs.length).length : Nat) : Int) := by
  rw [List.map_map]
  rfl
theorem def_most (B : Bl mg) (Nb : Def P w K mg base CX0 4 "need_beats" ["beats"] (spNeedBs K T)) (W : Def P w K mg base (L2.CX P w) 4 "weeks_of_beats" ["beats"] (spRound K T TG)) (Hi : Def P w K mg base CX0 1 "held_in" ["beats", "week"] (spHeldIn K T))
    (F : At K mg "most_at_once" sMostAt ["beats"]) : Def P w K mg base (L2.CX P w) 5 "most_at_once" ["beats"] (spMost K T TG) := by
  refine F.okX scMost (fun vs H Q E h => ?_) (fun f cdv A outer s H vs Q E hr h => ?_)
  · obtain ⟨x, bs, rfl, _⟩ := h
    rfl
  · obtain ⟨x, bs, rfl, bx, rn⟩ := h
    refine ⟨_, pss_cons (ps_expr (pe_def Nb hr (by rfl) pass0 (pa_cons (pv 0) pa_nil)))
      (pss_one (ps_ret (pe_callB (cr_max rfl) (by rfl) B.max sMax (pa_cons (pe_lc (own := [("week", 1)]) (g := gName 1) (tt := tYes) rfl scMost.nd
          (pi_range1 (by rfl) B.rng (pa_cons (pe_def (E := E) W hr (by rfl) (passes_call (takes_of rfl rfl rfl rfl) fun _ _ _ _ h => h) (pa_cons (pv 0) pa_nil)) pa_nil))
          (blkOk_by (N := nMo) (sc := defScope sMostAt) (by decide +kernel)) (fun _ _ _ _ _ => pg_name (i := 1) scMost.nd rfl (Or.inl rfl)) (fun _ _ _ _ _ => pts_nil)
          (fun _ _ _ _ _ => pe_callB (call_lenK (K := K) rfl) (by rfl) B.len sLen (pa_cons (pe_def Hi (hr.mono (by decide)) (by rfl) pass0 (pa_cons (pv 0) (pa_cons (pv 1) pa_nil))) pa_nil))) pa_nil)))), ?_⟩
    refine ⟨_, rfl, x, bs, rfl, bx.rep, bx.ok, bx.tb, fun H1 g1 => ?_⟩
    have b1 := bx.on g1
    have l0 := lcA_pos bx.ok.2
    refine ⟨_, rfl, x, bs, rfl, b1, fun c => (rn.no c).on g1, fun c H2 g2 => ?_⟩
    have b2 := b1.on g2
    refine ⟨_, rfl, by omega, by omega, fun D hD => ?_⟩
    refine lc_range (lo := 0) (n := lcA bs) (fun k H3 => Gq T H2 H3 ∧ H3 D = some (.lst ((List.range k).map fun w => V.int (((hIn bs w bs.length).length : Nat) : Int)))) ?_ ?_ ?_
    · exact ⟨(Gq.refl b2.tb).new hD, upd_same⟩
    · rintro k H3 hk ⟨g3, h3⟩
      refine ⟨rfl, yes ?_⟩
      rw [if_pos rfl]
      have b3 := b2.on g3
      rw [show (0 : Int) + (k : Nat) = ((k : Nat) : Int) by omega]
      refine ⟨_, rfl, _, rfl, x, bs, k, rfl, b3.rep, b3.ok, b3.tb, fun v H4 g4 rv => ?_⟩
      have h4 := g4.ext D _ h3 fun ps z => by cases z
      obtain ⟨va, rfl, hv⟩ := repN rv
      refine ⟨va, _, rfl, .inr hv, _, h4, by rw [sizeLine_eq, List.length_map, List.length_range]; omega, (g3.trans g4).wrote hD h4, ?_⟩
      rw [upd_same, List.range_succ, List.map_append, List.length_map]
      rfl
    · rintro H3 ⟨g3, h3⟩
      rw [← lens_map] at h3
      refine ⟨D, _, rfl, SqL.of h3, by rw [List.length_map, List.length_range]; exact l0, fun m h1 h2 => ?_⟩
      obtain ⟨n, rfl, t⟩ := top_of h1 h2
      exact rn.yes c n _ ((g1.trans g2).trans g3) t
theorem scFits : FnScope ["beats", "rooms"] ["beats", "rooms"] (defScope sFits) := ⟨rfl, rfl, rfl, by decide +kernel, rfl, by decide +kernel, by decide +kernel⟩
theorem def_fits (Nb : Def P w K mg base CX0 4 "need_beats" ["beats"] (spNeedBs K T)) (Nr : Def P w K mg base CX0 3 "need_rooms" ["rooms"] spNeedR) (Mo : Def P w K mg base (L2.CX P w) 5 "most_at_once" ["beats"] (spMost K T TG))
    (F : At K mg "fits" sFits ["beats", "rooms"]) : Def P w K mg base (L2.CX P w) 6 "fits" ["beats", "rooms"] (spFits K T TG) := by
  refine F.okX scFits (fun vs H Q E h => ?_) (fun f cdv A outer s H vs Q E hr h => ?_)
  · obtain ⟨x, bs, r, rfl, _⟩ := h
    rfl
  · obtain ⟨x, bs, r, rfl, h40, bx, rn⟩ := h
    refine ⟨_, pss_cons (ps_expr (pe_def Nb (hr.mono (by decide)) (by rfl) pass0 (pa_cons (pv 0) pa_nil)))
      (pss_cons (ps_expr (pe_def Nr (hr.mono (by decide)) (by rfl) pass0 (pa_cons (pv 1) pa_nil)))
      (pss_one (ps_ret (pe_cmpR op_le (pe_def (E := E) Mo hr (by rfl) (passes_call (takes_of rfl rfl rfl rfl) fun _ _ _ _ h => h) (pa_cons (pv 0) pa_nil)) (pv 1) (nomark _))))), ?_⟩
    refine ⟨_, rfl, x, bs, rfl, bx.rep, bx.ok, bx.tb, fun H1 g1 => ?_⟩
    refine ⟨_, rfl, r, rfl, h40, ?_⟩
    refine ⟨_, rfl, x, bs, rfl, bx.on g1, fun c => (rn.no c).on g1, fun c m H2 g2 t => ?_⟩
    refine ⟨_, rfl, _, _, rfl, rfl, ?_⟩
    have e : decide (((m : Nat) : Int) ≤ ((r : Nat) : Int)) = decide (m ≤ r) := by
      by_cases z : m ≤ r
      · rw [decide_eq_true z]; exact decide_eq_true (by omega)
      · rw [decide_eq_false z]; exact decide_eq_false (by omega)
    have := rn.yes c m H2 (g1.trans g2) t
    rw [← e] at this
    exact this
end
end K2
set_option Elab.async false
set_option linter.all false
set_option maxRecDepth 100000
set_option maxHeartbeats 4000000
/-! L1: the law's beats, the law's round. -/
namespace K2
open PySem PySem.Spec PyProof.Rows L2 BK LamX
theorem it_B {k : Nat} (b : Bt) : IT (k + 1) (dB b) := .tup fun d hd => by
  simp only [List.mem_cons, List.not_mem_nil, or_false] at hd
  rcases hd with rfl | rfl
  · exact .int k _
  · exact .int k _
theorem it_Bs {k : Nat} (bs : List Bt) : IT (k + 2) (dBs bs) := .tup fun d hd => by
  obtain ⟨b, _, rfl⟩ := List.mem_map.mp hd
  exact it_B b
theorem StH.away {st la ca : Addr} {n : Nat} {H : Hp} {p : Addr} (S : StH st la ca n H) (h : H p = none) : p ≠ st ∧ p ≠ la := by
  refine ⟨(fun z => by rw [z, S.atS] at h; cases h), fun z => ?_⟩
  obtain ⟨ys, hy⟩ := S.atL
  rw [z, hy] at h
  cases h
def lots : List (List Nat) := [[1, 2, 3, 4, 6, 12], [1, 2, 4, 8, 16], [2, 3, 5, 6, 10], [7, 3, 21], [5, 10, 20, 4]]
structure LotOk (l : List Nat) : Prop where
  pos : 0 < l.length
  few : l.length ≤ 6
  all : ∀ x ∈ l, 1 ≤ x ∧ x ≤ 24
  dv : ∃ M, 0 < M ∧ M ≤ 30 ∧ ∀ x ∈ l, x ∣ M
theorem lot_ok {l : List Nat} (h : l ∈ lots) : LotOk l := by
  simp only [lots, List.mem_cons, List.not_mem_nil, or_false] at h
  rcases h with rfl | rfl | rfl | rfl | rfl
  · exact ⟨by decide, by decide, by decide, 12, by decide, by decide, by decide⟩
  · exact ⟨by decide, by decide, by decide, 16, by decide, by decide, by decide⟩
  · exact ⟨by decide, by decide, by decide, 30, by decide, by decide, by decide⟩
  · exact ⟨by decide, by decide, by decide, 21, by decide, by decide, by decide⟩
  · exact ⟨by decide, by decide, by decide, 20, by decide, by decide, by decide⟩
theorem lots_at {K : PySem.W.Frag} {H : Hp} {xs : List V} {j : Nat} (r : RepAll K H xs (lots.map dN)) (h : j < 5) : ∃ x l, xs[j]? = some x ∧ LotOk l ∧ Rep K H x (dN l) := by
  have hl := r.length
  have e : lots.length = 5 := rfl
  rw [List.length_map, e] at hl
  have hx : xs[j]? = some (xs[j]'(by omega)) := List.getElem?_eq_getElem (by omega)
  obtain ⟨d, h1, h2⟩ := BK.rep_at r hx
  rw [List.getElem?_map] at h1
  cases z : lots[j]? with
  | none => rw [z] at h1; cases h1
  | some l =>
    rw [z] at h1
    cases h1
    exact ⟨_, l, hx, lot_ok (List.mem_of_getElem? z), h2⟩
def spBeatsL (K : PySem.W.Frag) (T : List (Addr × Str)) : Sp := fun vs H Q _ => ∃ (st la ca : Addr) (n : Nat), vs = [.ref st] ∧ StH st la ca n H ∧ n ≤ 80000 ∧ Tabs T H ∧
  ∀ v bs n' H', BtsOk bs → bs.length ≤ 6 → Divs bs → n' ≤ n + 16 → Gs T st la H H' → StH st la ca n' H' → Rep K H' v (dBs bs) → Q v H'
def spLength (K : PySem.W.Frag) (T : List (Addr × Str)) : Sp := fun vs H Q _ => ∃ (x : V) (bs : List Bt), vs = [x] ∧ Rep K H x (dBs bs) ∧ BtsOk bs ∧ Divs bs ∧ Tabs T H ∧ ∀ H', Gq T H H' → Q (.int (lcA bs : Nat)) H'
section
variable {P : Program} {w : World} {K : PySem.W.Frag} {mg : Str → Option Value} {base : Heap} {T : List (Addr × Str)} {TG : Addr}
def nBl : List Str := ["state", "lots", "some", "found", "step", "long_so"]
theorem scBeatsL : FnScope nBl ["state"] (defScope sBeatsL) := ⟨rfl, rfl, rfl, by decide +kernel, rfl, by decide +kernel, by decide +kernel⟩
theorem def_beatsL (B : Bl mg) (Dr : Def P w K mg base CX0 2 "_law_draw" ["state", "limit"] spDraw) (F : At K mg "_law_beats" sBeatsL ["state"]) : Def P w K mg base CX0 3 "_law_beats" ["state"] (spBeatsL K T) := by
  refine F.ok scBeatsL (fun vs H Q E h => ?_) (fun f cdv A outer s H vs Q E hr h => ?_)
  · obtain ⟨st, la, ca, n, rfl, _⟩ := h
    rfl
  · obtain ⟨st, la, ca, n, rfl, S, hn, tb, q⟩ := h
    refine ⟨_, pss_cons (ps_set (i := 1) scBeatsL.nd rfl (Or.inl rfl) (pe_lst (pa_cons (pe_tup (pa_cons pe_int (pa_cons pe_int (pa_cons pe_int (pa_cons pe_int (pa_cons pe_int (pa_cons pe_int pa_nil)))))))
        (pa_cons (pe_tup (pa_cons pe_int (pa_cons pe_int (pa_cons pe_int (pa_cons pe_int (pa_cons pe_int pa_nil))))))
        (pa_cons (pe_tup (pa_cons pe_int (pa_cons pe_int (pa_cons pe_int (pa_cons pe_int (pa_cons pe_int pa_nil))))))
        (pa_cons (pe_tup (pa_cons pe_int (pa_cons pe_int (pa_cons pe_int pa_nil))))
        (pa_cons (pe_tup (pa_cons pe_int (pa_cons pe_int (pa_cons pe_int (pa_cons pe_int pa_nil))))) pa_nil)))))))
      (pss_cons (ps_par (i := 2) (j := 3) rfl scBeatsL.nd rfl rfl (by decide) rfl rfl (pa_cons (pe_ix ix_list (pv 1) (pe_def Dr hr (by rfl) pass0 (pa_cons (pv 0) (pa_cons pe_int pa_nil))) (fun _ _ => rfl)) (pa_cons (pe_tup pa_nil) pa_nil)) (by rfl))
      (pss_cons (ps_for PassesOwn.never rfl (pi_range1 (by rfl) B.rng (pa_cons (pe_def Dr hr (by rfl) pass0 (pa_cons (pv 0) (pa_cons pe_int pa_nil))) pa_nil)) (pg_name (i := 4) scBeatsL.nd rfl (Or.inl rfl))
        (pss_cons (ps_set (i := 5) scBeatsL.nd rfl (Or.inl rfl) (pe_ix ix_tup (pv 2) (pe_def Dr hr (by rfl) pass0 (pa_cons (pv 0) (pa_cons (pe_callB call_len_seq (by rfl) B.len sLen (pa_cons (pv 2) pa_nil)) pa_nil))) (fun _ _ => rfl)))
        (pss_one (ps_set (i := 3) scBeatsL.nd rfl (Or.inl rfl) (pe_op op_catA (pv 3) (pe_tup (pa_cons (pe_tup (pa_cons (pv 5) (pa_cons (pe_def Dr hr (by rfl) pass0 (pa_cons (pv 0) (pa_cons (pv 5) pa_nil))) pa_nil))) pa_nil)))))))
      (pss_one (ps_ret (pv 3))))), ?_⟩
    refine ⟨by show 6 ≤ sizeLine; decide, fun p1 k1 => ⟨by show 5 ≤ sizeLine; decide, fun p2 k2 => ⟨by show 5 ≤ sizeLine; decide, fun p3 k3 => ⟨by show 3 ≤ sizeLine; decide, fun p4 k4 => ⟨by show 4 ≤ sizeLine; decide, fun p5 k5 => ⟨by show 5 ≤ sizeLine; decide, fun l0 k6 => ?_⟩⟩⟩⟩⟩⟩
    have ra : RepAll K _ [V.ref p1, .ref p2, .ref p3, .ref p4, .ref p5] (lots.map dN) := (.cons ((((((rep_tnew (K := K) k1 (.cons (.int 1) (.cons (.int 2) (.cons (.int 3) (.cons (.int 4) (.cons (.int 6) (.cons (.int 12) .nil))))))).ext (ext_new (o := .tup [.int 1, .int 2, .int 4, .int 8, .int 16]) k2)).ext (ext_new (o := .tup [.int 2, .int 3, .int 5, .int 6, .int 10]) k3)).ext (ext_new (o := .tup [.int 7, .int 3, .int 21]) k4)).ext (ext_new (o := .tup [.int 5, .int 10, .int 20, .int 4]) k5)).ext (ext_new (o := .lst [.ref p1, .ref p2, .ref p3, .ref p4, .ref p5]) k6)) (.cons (((((rep_tnew (K := K) k2 (.cons (.int 1) (.cons (.int 2) (.cons (.int 4) (.cons (.int 8) (.cons (.int 16) .nil)))))).ext (ext_new (o := .tup [.int 2, .int 3, .int 5, .int 6, .int 10]) k3)).ext (ext_new (o := .tup [.int 7, .int 3, .int 21]) k4)).ext (ext_new (o := .tup [.int 5, .int 10, .int 20, .int 4]) k5)).ext (ext_new (o := .lst [.ref p1, .ref p2, .ref p3, .ref p4, .ref p5]) k6)) (.cons ((((rep_tnew (K := K) k3 (.cons (.int 2) (.cons (.int 3) (.cons (.int 5) (.cons (.int 6) (.cons (.int 10) .nil)))))).ext (ext_new (o := .tup [.int 7, .int 3, .int 21]) k4)).ext (ext_new (o := .tup [.int 5, .int 10, .int 20, .int 4]) k5)).ext (ext_new (o := .lst [.ref p1, .ref p2, .ref p3, .ref p4, .ref p5]) k6)) (.cons (((rep_tnew (K := K) k4 (.cons (.int 7) (.cons (.int 3) (.cons (.int 21) .nil)))).ext (ext_new (o := .tup [.int 5, .int 10, .int 20, .int 4]) k5)).ext (ext_new (o := .lst [.ref p1, .ref p2, .ref p3, .ref p4, .ref p5]) k6)) (.cons ((rep_tnew (K := K) k5 (.cons (.int 5) (.cons (.int 10) (.cons (.int 20) (.cons (.int 4) .nil))))).ext (ext_new (o := .lst [.ref p1, .ref p2, .ref p3, .ref p4, .ref p5]) k6)) .nil)))))
    have g5 : Gq T H _ := ((((((Gq.refl tb).new (o := .tup [.int 1, .int 2, .int 3, .int 4, .int 6, .int 12]) k1).new (o := .tup [.int 1, .int 2, .int 4, .int 8, .int 16]) k2).new (o := .tup [.int 2, .int 3, .int 5, .int 6, .int 10]) k3).new (o := .tup [.int 7, .int 3, .int 21]) k4).new (o := .tup [.int 5, .int 10, .int 20, .int 4]) k5)
    have S5 := S.ext g5.ext
    have nl := S5.away k6
    have g6 := g5.new (o := .lst [.ref p1, .ref p2, .ref p3, .ref p4, .ref p5]) k6
    have S6 := S.ext g6.ext
    have h6 := upd_same (H := (upd (upd (upd (upd (upd H p1 (.tup [.int 1, .int 2, .int 3, .int 4, .int 6, .int 12])) p2 (.tup [.int 1, .int 2, .int 4, .int 8, .int 16])) p3 (.tup [.int 2, .int 3, .int 5, .int 6, .int 10])) p4 (.tup [.int 7, .int 3, .int 21])) p5 (.tup [.int 5, .int 10, .int 20, .int 4]))) (a := l0) (o := .lst [.ref p1, .ref p2, .ref p3, .ref p4, .ref p5])
    generalize upd (upd (upd (upd (upd (upd H p1 (.tup [.int 1, .int 2, .int 3, .int 4, .int 6, .int 12])) p2 (.tup [.int 1, .int 2, .int 4, .int 8, .int 16])) p3 (.tup [.int 2, .int 3, .int 5, .int 6, .int 10])) p4 (.tup [.int 7, .int 3, .int 21])) p5 (.tup [.int 5, .int 10, .int 20, .int 4])) l0 (.lst [.ref p1, .ref p2, .ref p3, .ref p4, .ref p5]) = H6 at ra g6 h6 S6 ⊢
    clear g5 S5 k1 k2 k3 k4 k5 k6
    refine ⟨_, rfl, _, rfl, st, la, ca, n, 5, rfl, S6, by omega, by decide, by decide, fun r H7 r0 r1 sd7 S7 => ?_⟩
    have g7 := (Gs.of (st := st) (la := la) g6).trans (Gs.drew g6.tb S6 sd7)
    obtain ⟨j, rfl⟩ : ∃ j : Nat, r = (j : Int) := ⟨r.toNat, by omega⟩
    have ra7 := (Gs.drew g6.tb S6 sd7).repA S6 ra (noLA_all fun d hd => by
      obtain ⟨l, _, rfl⟩ := List.mem_map.mp hd
      exact (it_nats (k := 0) l).noL)
    obtain ⟨sv, l, hx, lo, rs⟩ := lots_at ra7 (j := j) (by omega)
    have h7 : H7 l0 = some (.lst [.ref p1, .ref p2, .ref p3, .ref p4, .ref p5]) := by rw [sd7 l0 nl.1 nl.2]; exact h6
    refine ⟨l0, _, _, sv, rfl, rfl, SqL.of h7, atI_nat hx, by show 0 ≤ sizeLine; decide, fun e0 he0 => ⟨_, _, rfl, ?_⟩⟩
    have g8 := g7.new (o := .tup []) he0
    have S8 := S7.ext (ext_new (o := .tup []) he0)
    have rs8 : Rep K (upd H7 e0 (.tup [])) sv (dN l) := rs.ext (ext_new he0)
    have f8 : Rep K (upd H7 e0 (.tup [])) (.ref e0) (dBs []) := rep_tnew he0 .nil
    generalize upd H7 e0 (.tup []) = H8 at g8 S8 rs8 f8 ⊢
    clear g7 S7 ra7 h7 h6 sd7 ra S6 g6 he0 rs
    refine ⟨_, rfl, st, la, ca, _, 7, rfl, S8, by omega, by decide, by decide, fun t H9 t0 t1 sd9 S9 => ⟨_, rfl, by omega, by omega, ?_⟩⟩
    have g9 := g8.trans (Gs.drew g8.tb S8 sd9)
    have rs9 := (Gs.drew g8.tb S8 sd9).it S8 rs8 (it_nats (k := 0) l)
    have f9 := (Gs.drew g8.tb S8 sd9).it S8 f8 (it_Bs (k := 0) [])
    refine for_range (lo := 0) (n := t.toNat) (fun i σ H' => ∃ (bs : List Bt) (fv : V) (s4 s5 : Option V), bs.length = i ∧ (∀ b ∈ bs, BtOk b ∧ b.1 ∈ l) ∧ StH st la ca (n + 2 + 2 * i) H' ∧ Gs T st la H H' ∧ Rep K H' sv (dN l) ∧ Rep K H' fv (dBs bs) ∧ σ = [some (.ref st), some (.ref l0), some sv, some fv, s4, s5]) ?_ ?_ ?_
    · exact ⟨[], _, none, none, rfl, (fun b hb => by cases hb), S9, g9, rs9, f9, rfl⟩
    · rintro i σ H' hi ⟨bs, fv, s4, s5, bl, bo, SH, g, rl, rf, rfl⟩
      obtain ⟨a, rfl, hs⟩ := repN rl
      have lp := lo.pos
      have lf := lo.few
      refine ⟨_, rfl, _, rfl, _, rfl, a, _, rfl, .inr hs, st, la, ca, _, _, rfl, SH, by omega, by rw [List.length_map]; omega, by rw [List.length_map]; omega, fun u H2 u0 u1 sd2 S2 => ?_⟩
      rw [List.length_map] at u1
      have d2 := Gs.drew g.tb SH sd2
      obtain ⟨k, rfl⟩ : ∃ k : Nat, u = (k : Int) := ⟨u.toNat, by omega⟩
      obtain ⟨x, hxk⟩ : ∃ x, l[k]? = some x := ⟨l[k]'(by omega), List.getElem?_eq_getElem (by omega)⟩
      have xm := List.mem_of_getElem? hxk
      obtain ⟨x1, x2⟩ := lo.all x xm
      have hk : (l.map fun n => V.int (n : Nat))[k]? = some (.int (x : Nat)) := by rw [List.getElem?_map, hxk]; rfl
      refine ⟨a, _, _, _, rfl, rfl, d2.tup SH hs, atI_nat hk, ?_⟩
      refine ⟨_, rfl, _, rfl, _, rfl, _, rfl, st, la, ca, _, _, rfl, S2, by omega, by omega, by omega, fun v H3 v0 v1 sd3 S3 => ⟨by show 2 ≤ sizeLine; decide, fun p hp => ⟨by show 1 ≤ sizeLine; decide, fun q2 hq2 => ?_⟩⟩⟩
      have d3 := d2.trans (Gs.drew d2.tb S2 sd3)
      obtain ⟨z, rfl⟩ : ∃ z : Nat, v = (z : Int) := ⟨v.toNat, by omega⟩
      have g4 := ((Gq.refl d3.tb).new (o := .tup [.int (x : Nat), .int (z : Nat)]) hp).new (o := .tup [.ref p]) hq2
      have r1 : Rep K _ (.ref p) (dB (x, z)) := rep_tnew (K := K) hp (.cons (.int _) (.cons (.int _) .nil))
      have r2 : Rep K _ (.ref q2) (.tuple [dB (x, z)]) := rep_tnew (K := K) hq2 (.cons r1 .nil)
      have rf3 := d3.it SH rf (it_Bs (k := 0) bs)
      have rl3 := d3.it SH rl (it_nats (k := 0) l)
      refine cat_rep (T := T) (g4.rep rf3) r2 (by rw [List.length_map]; simp; omega) g4.tb fun v2 H5 g5 rv => ?_
      have e5 : dBs (bs ++ [(x, z)]) = .tuple (bs.map dB ++ [dB (x, z)]) := by
        unfold dBs
        rw [List.map_append]
        rfl
      rw [← e5] at rv
      have g45 := g4.trans g5
      refine ⟨bs ++ [(x, z)], v2, _, _, by simp [bl], fun b hb => ?_, S3.ext g45.ext, (g.trans d3).grow g45, g45.rep rl3, rv, rfl⟩
      rcases List.mem_append.mp hb with h | h
      · exact bo b h
      · rw [List.mem_singleton.mp h]
        exact ⟨⟨x1, x2, by show z < x; omega⟩, xm⟩
    · rintro σ H' ⟨bs, fv, s4, s5, bl, bo, SH, g, rl, rf, rfl⟩
      obtain ⟨M, m0, m1, md⟩ := lo.dv
      refine ⟨_, rfl, q fv bs _ H' ⟨by omega, fun b hb => (bo b hb).1⟩ (by omega) ⟨M, m0, m1, fun b hb => md _ (bo b hb).2⟩ ?_ g SH rf⟩
      omega
def nLn : List Str := ["some", "found", "long_so", "first"]
theorem scLength : FnScope nLn ["some"] (defScope sLength) := ⟨rfl, rfl, rfl, by decide +kernel, rfl, by decide +kernel, by decide +kernel⟩
theorem eqv_ones : ∀ n : Nat, PyData.eqv (.list (List.replicate n (.int 1))) (.list []) = (n == 0)
  | 0 => by decide +kernel
  | n + 1 => by
    rw [List.replicate_succ]
    simp [PyData.eqv, PyData.eqvAll]
theorem shaped_ones (n : Nat) : SeqAt.shaped (.list (List.replicate n (.int 1))) = true := by
  have a : PyData.canLayAll0 (List.replicate n (.int 1)) = true := by
    induction n with
    | zero => decide +kernel
    | succ n ih => rw [List.replicate_succ]; simp [PyData.canLayAll0, PyData.canLay0, ih]
  have b : PyData.depthAll (List.replicate n (.int 1)) = 0 := by
    clear a
    induction n with
    | zero => decide +kernel
    | succ n ih => rw [List.replicate_succ]; simp [PyData.depthAll, PyData.depth, ih]
  simp [SeqAt.shaped, PyData.canLay0, PyData.depth, a, b]
/-- how many of the first k periods do not divide f -/
def nodv (bs : List Bt) (f k : Nat) : Nat := ((bs.take k).filter fun b => f % b.1 != 0).length
theorem nodv_zero {bs : List Bt} {f : Nat} (ok : ∀ b ∈ bs, BtOk b) (f0 : 0 < f) : nodv bs f bs.length = 0 ↔ lcA bs ∣ f := by
  unfold nodv
  rw [List.take_length, List.length_eq_zero_iff, List.filter_eq_nil_iff]
  constructor
  · intro h
    refine lcA_least fun b hb => Nat.dvd_of_mod_eq_zero ?_
    have := h b hb
    simpa using this
  · intro h b hb
    have : f % b.1 = 0 := Nat.mod_eq_zero_of_dvd (Nat.dvd_trans (lcA_dvd hb) h)
    simp [this]
theorem def_length (F : At K mg "_law_length" sLength ["some"]) : Def P w K mg base CX0 1 "_law_length" ["some"] (spLength K T) := by
  refine F.ok scLength (fun vs H Q E h => ?_) (fun f cdv A outer s H vs Q E hr h => ?_)
  · obtain ⟨x, bs, rfl, _⟩ := h
    rfl
  · obtain ⟨x, bs, rfl, hx, ok, dv, tb, q⟩ := h
    refine ⟨_, pss_cons (ps_set (i := 1) scLength.nd rfl (Or.inr rfl) pe_int)
      (pss_cons (ps_while PassesOwn.never (pt_cmpR (op_neD (hu64 hr)) (pe_lc (own := [("long_so", 2), ("first", 3)]) (g := gTup K 2 (gCons (gName 2) (gCons (gName 3) gNil))) rfl scLength.nd (pi_tup (pv 0))
            (blkOk_by (N := nLn) (sc := defScope sLength) (by decide +kernel))
            (fun _ _ _ _ _ => pg_tup rfl (pgs_cons (pg_name (i := 2) scLength.nd rfl (Or.inl rfl) (.inr rfl)) (pgs_cons (pg_name (i := 3) scLength.nd rfl (Or.inl rfl) (.inr rfl)) pgs_nil)))
            (fun _ _ _ _ _ => pts_one (pt_cmpR op_ne (pe_op op_mod (pv 1) (pv 2)) pe_int (nomark _))) (fun _ _ _ _ _ => pe_int)) (pe_lst pa_nil) (nomark _))
        (pss_one (ps_set (i := 1) scLength.nd rfl (Or.inr rfl) (pe_op op_add (pv 1) pe_int))))
      (pss_one (ps_ret (pv 1)))), ?_⟩
    obtain ⟨a, xs, rfl, hs, ra⟩ := repTup hx
    have xl := ra.length
    rw [List.length_map] at xl
    have l10 := ok.1
    have L0 := lcA_pos ok.2
    refine ⟨fun m σ H' => ∃ f : Nat, m = lcA bs - f ∧ 0 < f ∧ f ≤ lcA bs ∧ Gq T H H' ∧ σ = [some (.ref a), some (.int (f : Nat)), none, none], ⟨_, 1, rfl, Nat.one_pos, L0, Gq.refl tb, rfl⟩, ?_⟩
    rintro m σ H' ⟨f, rfl, f0, f1, g, rfl⟩
    refine ⟨_, rfl, a, rfl, ⟨_, sqt_ext g.ext hs⟩, fun D hD => ?_⟩
    refine lc_tup (K := K) (a := a) (xs := xs) (fun k H2 => Gq T H' H2 ∧ H2 D = some (.lst (List.replicate (nodv bs f k) (.int 1)))) ?_ ?_ ?_ ?_
    · exact ⟨(Gq.refl g.tb).new hD, upd_same⟩
    · rintro i H2 _ ⟨g2, _⟩
      exact sqt_ext (g.trans g2).ext hs
    · rintro i x H2 hi ⟨g2, h2⟩
      obtain ⟨b, eb, rb⟩ := bs_at ra hi
      have il : i < bs.length := (List.getElem?_eq_some_iff.mp eb).1
      have okb := ok.2 b (List.mem_of_getElem? eb)
      have b0 := okb.lo
      obtain ⟨ba, rfl, hb⟩ := repB rb
      have em : ((f : Nat) : Int) % ((b.1 : Nat) : Int) = ((f % b.1 : Nat) : Int) := (Int.natCast_emod f b.1).symm
      have ec : nodv bs f (i + 1) = nodv bs f i + if f % b.1 = 0 then 0 else 1 := by
        unfold nodv
        rw [List.take_add_one, eb, Option.toList_some, List.filter_append, List.length_append]
        by_cases c : f % b.1 = 0 <;> simp [c]
      have cn : nodv bs f i ≤ i := by
        unfold nodv
        have h1 := List.length_filter_le (fun b : Bt => f % b.1 != 0) (bs.take i)
        rw [List.length_take] at h1
        omega
      refine ⟨ba, _, rfl, sqt_ext (g.trans g2).ext hb, rfl, _, _, rfl, _, _, rfl, rfl, rfl, ?_⟩
      refine ⟨_, rfl, _, rfl, _, _, rfl, rfl, by omega, rfl, _, rfl, ?_⟩
      by_cases c : f % b.1 = 0
      · refine ifN (by show (!decide (V.int (((f : Nat) : Int) % ((b.1 : Nat) : Int)) = V.int 0)) = false; rw [em, c]; rfl) ?_
        rw [if_pos c] at ec
        exact ⟨g2, by rw [h2, ec]; rfl⟩
      · refine ifY (by show (!decide (V.int (((f : Nat) : Int) % ((b.1 : Nat) : Int)) = V.int 0)) = true; rw [em, decide_eq_false (fun z => c (by have := V.int.inj z; omega))]; rfl) ?_
        rw [if_neg c] at ec
        refine ⟨_, h2, by rw [sizeLine_eq, List.length_replicate]; omega, g2.wrote hD h2, ?_⟩
        rw [upd_same, ec, List.replicate_succ']
    · rintro H2 ⟨g2, h2⟩
      rw [xl] at h2
      refine ⟨by show 0 ≤ sizeLine; decide, fun p hp => ?_⟩
      have h3 : upd H2 p (.lst []) D = some (.lst (List.replicate (nodv bs f bs.length) (.int 1))) := by rw [upd_ne (ne_of_none h2 hp)]; exact h2
      have rr : ∀ (n : Nat) (H : Hp), RepAll K H (List.replicate n (.int 1)) (List.replicate n (.int 1)) := fun n H => by
        induction n with
        | zero => exact .nil
        | succ n ih => exact .cons (.int 1) ih
      refine ⟨.list (List.replicate (nodv bs f bs.length) (.int 1)), .list [], dp_of (.lst (SqL.of h3) (rr _ _)), dp_of (.lst (SqL.of upd_same) .nil), shaped_ones _, by decide +kernel, _, rfl, ?_⟩
      rw [eqv_ones]
      have g3 := (g.trans g2).new (o := .lst []) hp
      by_cases c : lcA bs ∣ f
      · have e0 := (nodv_zero ok.2 f0).mpr c
        have ef : f = lcA bs := Nat.le_antisymm f1 (Nat.le_of_dvd f0 c)
        refine ifN (by rw [e0]; rfl) ?_
        rw [ef]
        exact ⟨_, rfl, q _ g3⟩
      · have e0 : nodv bs f bs.length ≠ 0 := fun z => c ((nodv_zero ok.2 f0).mp z)
        have ne : f ≠ lcA bs := fun z => c (by rw [z]; exact Nat.dvd_refl _)
        refine ifY (by simp [e0]) ?_
        refine ⟨fun σ' H3 => Gq T H H3 ∧ σ' = [some (.ref a), some (.int ((f + 1 : Nat) : Int)), none, none], fun σ' H3 ⟨z1, z2⟩ => ⟨_, by omega, f + 1, rfl, by omega, by omega, z1, z2⟩, ?_⟩
        exact ⟨_, rfl, _, _, rfl, rfl, g3, rfl⟩
end
end K2
set_option Elab.async false
set_option linter.all false
set_option maxRecDepth 100000
set_option maxHeartbeats 4000000
/-! HL: what a call tells, or its error; a call of a name that holds one of several defs. -/
namespace K2
open PySem PySem.Spec PyProof.Rows L2 BK LamX
structure ErrG (K : PySem.W.Frag) (mg : Str → Option Value) (TG HE : Addr) : Prop where
  gT : mg "TooGreat" = some (.ref TG)
  gH : mg "HourError" = some (.ref HE)
  nI : mg "isinstance" = none
  eT : PySem.W.exmOne K (.ref TG) (.ref TG) = some true
  iT : IsC K TG
  xT : XfC K TG
  vT : PySem.W.findIn K (.ref TG) "most" = some none
  kT : PySem.W.kitOne K (.ref TG) (.ref HE) = some true
/-- heard: tl is the lambda's reading -/
def THeard (TG : Addr) : (XK → Hp → VK → Prop) → Hp → VK → Prop := fun tl H Q =>
  tl (fun cls d H' => cls = .ref TG ∧ ∃ dd y, d = some dd ∧ H' dd = some (.xd [("most", y)]) ∧ ∀ p, H' p = none → Q (.ref p) (upd H' p (.tup [.str "great", y, .bl true]))) H
    (fun v H' => ∀ p, H' p = none → Q (.ref p) (upd H' p (.tup [.str "is", v])))
theorem scHeard : FnScope ["call", "told", "error_so"] ["call"] (defScope sHeard) := ⟨rfl, rfl, rfl, by decide +kernel, rfl, by decide +kernel, by decide +kernel⟩
theorem lk_most (y : V) : ([(("most" : Str), y)] : List (Str × V)).lookup ("most" : Str) = some y := by simp [List.lookup]
theorem call_isD' {X : Cx} {a D : Addr} {cls : Value} {d : Option Addr} {oe : Obj} {pn : List (Addr × Obj)} (C : IsC X.K D) (hz : Zc cls d oe) (hf : ∃ vs, oe.data = .fields vs) : CallR (X.suite a ((a, oe) :: pn)) (.builtin "isinstance") (fun xs H Q => cls = .ref D ∧ rIsD X.K D a d xs H Q) := by
  intro pins s σ H xs us Q I r h
  obtain ⟨e, h⟩ := h
  subst e
  exact call_isD C hz hf pins s σ H xs us Q I r h
section
variable {X : Cx} {TG HE : Addr}
theorem pe_mono {X : Cx} {e : Expr} {t : TE} (h : PE X e t) : PE X e (fun σ H Q => ∃ Qv : VK, (∀ v H1, Qv v H1 → Q v H1) ∧ t σ H Qv) :=
  ⟨fun pins s σ H Q I ⟨Qv, i, q⟩ => thn (h.run pins s σ H Qv I q) fun u s' ⟨v, H1, I1, r, q1⟩ => ⟨v, H1, I1, r, i v H1 q1⟩⟩
theorem heard_gives (T : ErrG X.K X.mg TG HE) {g : Addr} {cdg : Value} {q : Str} :
    GivesTo X ["call", "told", "error_so"] "_law_heard" (defScope sHeard) g cdg (defBody sHeard) "call" q (THeard TG) := by
  intro f c' s H Q tl act hc h
  refine ⟨_, pss_cons (ps_set (i := 1) scHeard.nd rfl (Or.inl rfl) pe_non)
    (pss_cons (ps_try_manyA (X := (cxOf C8.CX0 X.prog X.w X.K X.mg X.base ["call", "told", "error_so"] "_law_heard" (defScope sHeard) g cdg X.A X.stack s H C8.E0).nox) (i := 2) (n := "error_so")
      (tb := fun W D σ H => ∃ Ech : XK, (∀ cls d σ' H', Ech cls d H' → W cls d σ' H') ∧ σ[0]? = some (some (.ref f)) ∧ H c' = some (CodeO c' q) ∧ ∃ Qv : VK, (∀ v H1, Qv v H1 → [V.str "is", v].length ≤ sizeLine ∧ ∀ p, H1 p = none → D.nx (σ.set 1 (some (.ref p))) (upd H1 p (.tup [.str "is", v]))) ∧ tl Ech H Qv)
      rfl rfl scHeard.nd rfl rfl LamX.takes0 (fun W pn xe tk _ => ?_)
      (HdsA.cons (ts := fun a cls d => tAsg (tTup (tCons (tC (.str "great")) (tCons (tXf a cls d TG "most" (tVar 2)) (tCons (tCB (fun xs H Q => cls = .ref TG ∧ rIsD X.K TG a d xs H Q) (tCons (tVar 2) (tCons (tC (.ref HE)) tNil))) tNil)))) (gName 1)) ⟨rfl, by decide, .inl T.gT⟩
        (fun a oe cls d pn hz hf => pss_one (ps_set (i := 1) scHeard.nd rfl (Or.inl rfl) (pe_tup (pa_cons pe_str (pa_cons (pe_xf T.xT T.vT hz hf (pv 2)) (pa_cons (pe_callB (call_isD' T.iT hz hf) (by rfl) T.nI (by decide +kernel) (pa_cons (pv 2) (pa_cons (pe_glob rfl T.gH rfl) pa_nil))) pa_nil)))))) HdsA.nil))
    (pss_one (ps_ret (pv 1)))), ?_⟩
  · refine ⟨fun pins s' σ H' D I h' => ?_⟩
    obtain ⟨Ech, hW, h1, h2, Qv, h4, h3⟩ := h'
    have hp := act W pn xe Ech ⟨116, 22, 116, 26⟩ ⟨116, 22, 116, 28⟩ tk hW
    have hp' := pe_mono hp
    exact PSs.run (t := tAsg (tTup (tCons (tC (.str "is")) (tCons (fun σZ HZ Q => ∃ Qv : VK, (∀ v H1, Qv v H1 → Q v H1) ∧ σZ[0]? = some (some (.ref f)) ∧ HZ c' = some (CodeO c' q) ∧ tl Ech HZ Qv) tNil))) (gName 1)) (pss_one (ps_set (i := 1) scHeard.nd rfl (Or.inl rfl) (pe_tup (pa_cons pe_str (pa_cons hp' pa_nil))))) pins s' σ H' D I ⟨Qv, h4, h1, h2, h3⟩
  · refine ⟨fun cls d H' => cls = .ref TG ∧ ∃ dd y, d = some dd ∧ H' dd = some (.xd [("most", y)]) ∧ ∀ p, H' p = none → Q (.ref p) (upd H' p (.tup [.str "great", y, .bl true])), fun cls d σ' H' hE => ?_, rfl, hc, (fun v H' => ∀ p, H' p = none → Q (.ref p) (upd H' p (.tup [.str "is", v]))), fun v H1 hv => ⟨by show 2 ≤ sizeLine; decide, fun p hp => ⟨_, rfl, hv p hp⟩⟩, h⟩
    obtain ⟨hcl, dd, y, hd, hh, k⟩ := hE
    have out : ∀ {σ' : L2.St} {v w : V}, σ'.length = 3 → (((σ'.set 2 (some w)).set 1 (some v)).set 2 none)[1]? = some (some v) := fun {σ' v w} hl => by
      rw [List.getElem?_set_ne (by decide), List.getElem?_set_self (by simp [hl])]
    have sl2 : ∀ {σ' : L2.St} {w : V}, σ'.length = 3 → (σ'.set 2 (some w))[2]? = some (some w) := fun {σ' w} hl => List.getElem?_set_self (by simp [hl])
    subst hcl hd
    refine ⟨true, T.eT, fun _ hl a na => ?_, (fun z => nomatch z)⟩
    exact ⟨_, sl2 hl, rfl, rfl, _, _, _, rfl, hh, lk_most _, _, sl2 hl, rfl, _, _, true, rfl, fun u r => r, T.kT, fun dd e => by cases e; exact ⟨_, hh⟩, by show 3 ≤ sizeLine; decide, fun p hp => ⟨_, out hl, k p hp⟩⟩
theorem pe_heard (ET : ErrG X.K X.mg TG HE) (F : At X.K X.mg "_law_heard" sHeard ["call"]) {T : List (Addr × Str)} {c P : Addr} {k : Nat} {params : Arguments} {body : Expr} {scope : Scope} {t : XK → TE} {p lpos pos : Pos} (hg : Gl X "_law_heard")
    (TB : LamX.TabB X.base X.mg c P) (hcode : X.env.code = .ref c) (hmT : (P, X.env.qual ++ "<lambda>") ∈ T) (hu : ∀ p ∈ T, p.1 = P → p.2 = X.env.qual ++ "<lambda>") (hr : Room (k + 2) X.A) (L : LamS X.env.scope scope) (hdef : defaultsOf params X.env = ([], []))
    (hbind : ∀ (q : Str) (cl : List (Str × Addr)) (pm cv ctv : Value), bindArgs (PySem.W.kla_fn "<lambda>" q params body scope cl pm cv ctv) ⟨[], []⟩ = pure [])
    (hbody : ∀ (A : Around) (outer : List Env) (s : Shared) (H : Hp) (E : XK) (f c' : Addr), Room k (A.deeper (lamEnv X scope s.heap.objs.size f c')) → PE (lamCx X A outer s H E scope f c') body (t E)) :
    PE X (.Call (.Name "_law_heard" p) [.Lambda params body scope lpos] [] pos) (tLam T (THeard TG) t) := by
  obtain ⟨f, fd, Fn, m, b⟩ := F.ex
  obtain ⟨oc, od, kV, doc, pm, an, cdv, ct, osl, rfl, lk, hcd⟩ := Fn.ex
  exact pe_lamcall (Ng := ["call", "told", "error_so"]) hg m Fn.kp lk hcd b scHeard rfl (.inl (by rfl)) (heard_gives ET) TB hcode hmT hu hr L hdef hbind hbody
end
/-- the def at f keeps its promise -/
def HeldX (P : Program) (w : World) (K : PySem.W.Frag) (mg : Str → Option Value) (base : Heap) (k : Nat) (f : Addr) (sp : Sp) : Prop := ∃ (fd : FuncData) (ps : List Str), FnOk P w K mg base (L2.CX P w) k f fd ps sp ∧ PySem.W.keepIn K (.ref f) = true ∧ Binds K fd ps []
theorem heldX {P : Program} {w : World} {K : PySem.W.Frag} {mg : Str → Option Value} {base : Heap} {k : Nat} {x : Str} {ps : List Str} {sp : Sp} (D : Def P w K mg base (L2.CX P w) k x ps sp) : ∃ f, mg x = some (.ref f) ∧ HeldX P w K mg base k f sp := by
  obtain ⟨f, fd, F, m, kp, b, _⟩ := D.ex
  exact ⟨f, m, fd, ps, F, kp, b⟩
def tCallX (P : Program) (w : World) (K : PySem.W.Frag) (mg : Str → Option Value) (base : Heap) (k i : Nat) (E : XK) (t : TA) : TE := fun σ H Q => ∃ f sp, σ[i]? = some (some (.ref f)) ∧ HeldX P w K mg base k f sp ∧ t σ H fun vs H1 => sp (vs ++ []) H1 Q E
section
variable {X : Cx} {k i : Nat} {E : XK} {x : Str} {p pos : Pos} {e : Expr} {es : List Expr} {t : TA}
theorem pe_callX (hr : Room k X.A) (hN : X.N[i]? = some x) (hv : Vis X.env.scope x) (hx : Passes (L2.CX X.prog X.w) X E) (ha : PA X (e :: es) t)
    (hdb : (x == ("__debug__" : Str)) = false := by decide) (hcd : (x == ("__classdict__" : Str)) = false := by decide)
    (he : starEach (e :: es) X.env = (false, eval e X.env) :: starEach es X.env := by rfl) (hpl : (backTo pos (starEach es X.env)).any (·.1) = false := by rfl) :
    PE X (.Call (.Name x p) (e :: es) [] pos) (tCallX X.prog X.w X.K X.mg X.base k i E t) := by
  refine ⟨fun pins s σ H Q I h => ?_⟩
  obtain ⟨f, sp, hs, ⟨fd, ps, F, kp, b⟩, ht⟩ := h
  exact (pe_callL (i := i) (f := f) (sp := sp) (dvs := []) (E := E) F hr hN hv kp b .nil hx ha hdb hcd he hpl).run pins s σ H Q I ⟨hs, ht⟩
end
end K2
set_option Elab.async false
set_option linter.all false
set_option maxRecDepth 100000
set_option maxHeartbeats 8000000
/-! W1: rounds are as they must be. -/
namespace K2
open PySem PySem.Spec PyProof.Rows L2 BK LamX
theorem passN {X : Cx} : Passes (L2.CX X.prog X.w) X E0 := fun _ _ _ _ _ _ _ h => by
  obtain ⟨_, _, _, _, _, _, _, _, _, _, _, _, z⟩ := h
  exact z.elim
theorem rnd_few {T : List (Addr × Str)} {TG : Addr} {bs : List Bt} {H : Hp} {E : XK} {C : Prop} (h : lcA bs ≤ 30) (c : C) : Rnd T TG bs H E C := ⟨fun z => absurd z (by omega), fun _ => c⟩
theorem hIn_lt {bs : List Bt} {w n x : Nat} (h : x ∈ hIn bs w n) : x < n := List.mem_range.mp (List.mem_filter.mp h).1
theorem shw_N {l : List Nat} (h : l.length ≤ 10) (b : ∀ x ∈ l, x < 1000) : Shw (dN l) 1000 1 := by
  refine shw_tup (m := 41) (k := 0) (fun d hd => ?_) (by rw [List.length_map]; omega)
  obtain ⟨i, hi, rfl⟩ := List.mem_map.mp hd
  exact shw_int (by have := b i hi; omega)
theorem shw_h {bs : List Bt} {w : Nat} (h : bs.length ≤ 6) : Shw (dN (hIn bs w bs.length)) 1000 1 := by
  have := hIn_len bs w bs.length
  exact shw_N (by omega) fun x hx => by have := hIn_lt hx; omega
theorem shw_rows {bs : List Bt} {L : Nat} (h : bs.length ≤ 6) (hL : L ≤ 30) : Shw (dRows bs L) 40000 2 := by
  refine shw_tup (m := 1000) (k := 1) (fun d hd => ?_) (by rw [List.length_map, List.length_range]; omega)
  obtain ⟨i, hi, rfl⟩ := List.mem_map.mp hd
  exact shw_h h
theorem shw_got {bs : List Bt} {L m : Nat} (h : bs.length ≤ 6) (hL : L ≤ 30) (hm : m ≤ 6) : Shw (.list [.int (L : Nat), dRows bs L, .int (m : Nat)]) 200000 3 := by
  refine shw_list (m := 40000) (k := 2) (fun d hd => ?_) (by show 3 * 40000 + 3 * 2 + 4 + 40000 ≤ 200000; decide)
  simp only [List.mem_cons, List.not_mem_nil, or_false] at hd
  rcases hd with rfl | rfl | rfl
  · exact (shw_int (by omega)).mono (by decide) (by decide)
  · exact shw_rows h hL
  · exact (shw_int (by omega)).mono (by decide) (by decide)
theorem shw_bls (f : Nat → Bool) : Shw (.list ((List.range 8).map fun r => .bool (f r))) 1000 1 := by
  refine shw_list (m := 41) (k := 0) (fun d hd => ?_) (by rw [List.length_map, List.length_range]; omega)
  obtain ⟨i, hi, rfl⟩ := List.mem_map.mp hd
  exact shw_bl _
theorem rep_bls {K : PySem.W.Frag} {H : Hp} (f : Nat → Bool) : ∀ l : List Nat, RepAll K H (l.map fun r => V.bl (f r)) (l.map fun r => .bool (f r))
  | [] => .nil
  | r :: l => .cons (.bl _) (rep_bls f l)
/-- no two of the first i meet -/
def ApTo (bs : List Bt) (i : Nat) : Prop := ∀ (k j : Nat) (a b : Bt), k < i → j < k → bs[k]? = some a → bs[j]? = some b → ¬ Meet a b
theorem apTo_all {bs : List Bt} : ApTo bs bs.length ↔ Apart bs :=
  ⟨fun h k j a b jk ha hb => h k j a b (List.getElem?_eq_some_iff.mp ha).1 jk ha hb, fun h k j a b _ jk ha hb => h k j a b jk ha hb⟩
theorem apTo_succ {bs : List Bt} {i : Nat} {a : Bt} (ha : bs[i]? = some a) : ApTo bs (i + 1) ↔ ApTo bs i ∧ ∀ j b, j < i → bs[j]? = some b → ¬ Meet a b := by
  constructor
  · intro h
    exact ⟨fun k j a b ki jk => h k j a b (by omega) jk, fun j b ji hb => h i j a b (by omega) ji ha hb⟩
  · rintro ⟨h1, h2⟩ k j c d ki jk hc hd
    rcases Nat.lt_or_eq_of_le (Nat.lt_succ_iff.mp ki) with z | z
    · exact h1 k j c d z jk hc hd
    · subst z
      rw [ha] at hc
      cases hc
      exact h2 j d jk hd
/-- do they meet -/
def mt (a b : Bt) : Bool := decide (((b.2 : Int) - a.2 - ((0 : Nat) : Int)) % ((Nat.gcd a.1 b.1 : Nat) : Int) = 0)
theorem mt_iff {a b : Bt} (ha : BtOk a) (hb : BtOk b) : mt a b = true ↔ Meet a b := by
  unfold mt
  rw [decide_eq_true_eq]
  exact meet_dec ha hb
def nmt (l : List Bt) (a : Bt) (k : Nat) : Nat := ((l.take k).filter (mt a)).length
theorem nmt_le (l : List Bt) (a : Bt) (k : Nat) : nmt l a k ≤ k := by
  unfold nmt
  have h1 := List.length_filter_le (mt a) (l.take k)
  rw [List.length_take] at h1
  omega
theorem nmt_succ {l : List Bt} {k : Nat} {c : Bt} (a : Bt) (h : l[k]? = some c) : nmt l a (k + 1) = nmt l a k + if mt a c = true then 1 else 0 := by
  unfold nmt
  rw [List.take_add_one, h, Option.toList_some, List.filter_append, List.length_append]
  by_cases z : mt a c = true <;> simp [z]
theorem nmt_zero {l : List Bt} {a : Bt} {i : Nat} (ha : BtOk a) (ok : ∀ c ∈ l, BtOk c) (hl : l.length ≤ i) : nmt l a i = 0 ↔ ∀ (j : Nat) (c : Bt), l[j]? = some c → ¬ Meet a c := by
  unfold nmt
  rw [List.take_of_length_le hl, List.length_eq_zero_iff, List.filter_eq_nil_iff]
  constructor
  · intro h j c hj m
    have hc := List.mem_of_getElem? hj
    exact h c hc ((mt_iff ha (ok c hc)).mpr m)
  · intro h c hc z
    obtain ⟨j, hj, e⟩ := List.mem_iff_getElem.mp hc
    exact h j c (by rw [List.getElem?_eq_getElem hj, e]) ((mt_iff ha (ok c hc)).mp z)
def spRight (K : PySem.W.Frag) (T : List (Addr × Str)) : Sp := fun vs H Q _ => ∃ (st la ca : Addr) (n : Nat) (x : V) (bs : List Bt), vs = [.ref st, x] ∧ StH st la ca n H ∧ n ≤ 80000 ∧ Rep K H x (dBs bs) ∧ BtsOk bs ∧ bs.length ≤ 6 ∧ Divs bs ∧ Tabs T H ∧
  ∀ H', Gs T st la H H' → StH st la ca (n + 3) H' → Q (.bl true) H'
structure Prg (P : Program) (w : World) (K : PySem.W.Frag) (mg : Str → Option Value) (base : Heap) (T : List (Addr × Str)) (TG : Addr) : Prop where
  bl : Bl mg
  draw : Def P w K mg base CX0 2 "_law_draw" ["state", "limit"] spDraw
  length : Def P w K mg base CX0 1 "_law_length" ["some"] (spLength K T)
  like : DefG P w K mg base 1 "_law_like" ["got", "due"] (spLike K)
  held : Def P w K mg base CX0 5 "held" ["beats", "week"] (spHeldIn K T)
  meets : Def P w K mg base CX0 5 "meets" ["one", "other"] (spPairT 0 K)
  roundL : Def P w K mg base (L2.CX P w) 5 "round_length" ["beats"] (spRound K T TG)
  unr : Def P w K mg base (L2.CX P w) 5 "unrolled" ["beats"] (spUnr K T TG)
  most : Def P w K mg base (L2.CX P w) 5 "most_at_once" ["beats"] (spMost K T TG)
  fits : Def P w K mg base (L2.CX P w) 6 "fits" ["beats", "rooms"] (spFits K T TG)
def nRi : List Str := ["state", "some", "many", "weeks_so", "when", "top", "got", "step", "apart", "spot", "near", "one", "beat_so", "row_so", "room", "far"]
section
variable {P : Program} {w : World} {K : PySem.W.Frag} {mg : Str → Option Value} {base : Heap} {T : List (Addr × Str)} {TG : Addr}
theorem op_eqDK {X : Cx} (hK : X.K = K) (hu : X.A.units + 64 < cLine) : OpR X (compareOp .Eq) (rEqD K) := hK ▸ op_eqD hu
theorem scRight : FnScope nRi ["state", "some"] (defScope sRight) := ⟨rfl, rfl, rfl, by decide +kernel, rfl, by decide +kernel, by decide +kernel⟩
theorem def_right (L : Prg P w K mg base T TG) (F : At K mg "_law_right" sRight ["state", "some"]) : DefG P w K mg base 7 "_law_right" ["state", "some"] (spRight K T) := by
  refine F.okG scRight (fun vs H Q E h => ?_) (fun f cdv A outer s H vs Q E hgd hr h => ?_)
  · obtain ⟨st, la, ca, n, x, bs, rfl, _⟩ := h
    rfl
  · obtain ⟨st, la, ca, n, x, bs, rfl, S, hn, hx, ok, l6, dv, tb, q⟩ := h
    have B := L.bl
    refine ⟨_, pss_cons (ps_set (i := 2) scRight.nd rfl (Or.inl rfl) (pe_def L.length (hr.mono (by decide)) (by rfl) pass0 (pa_cons (pv 1) pa_nil)))
      (pss_cons (ps_set (i := 3) scRight.nd rfl (Or.inl rfl) (pe_lst pa_nil))
      (pss_cons (ps_for PassesOwn.never rfl (pi_range1 (by rfl) B.rng (pa_cons (pv 2) pa_nil)) (pg_name (i := 4) scRight.nd rfl (Or.inr rfl))
        (pss_one (ps_expr (pe_bm PySem.F.plainAttrs_list PySem.F.slot_list_append PySem.F.type_list_append mt_append (pv 3) (pa_cons (pe_callTy call_tuple_of (by rfl) B.tup sTup (pa_cons
          (pe_lc (own := [("one", 11), ("beat_so", 12)]) (g := gTup K 2 (gCons (gName 11) (gCons (gName 12) gNil))) rfl scRight.nd (pi_enumT (by rfl) B.enu (pa_cons (pv 1) pa_nil))
            (blkOk_by (N := nRi) (sc := defScope sRight) (by decide +kernel))
            (fun _ _ _ _ _ => pg_tup rfl (pgs_cons (pg_name (i := 11) scRight.nd rfl (Or.inl rfl) (.inr rfl)) (pgs_cons (pg_name (i := 12) scRight.nd rfl (Or.inl rfl) (.inr rfl)) pgs_nil)))
            (fun _ _ _ _ _ => pts_one (pt_cmpR op_eq (pe_op op_mod (pv 4) (pe_ix (ix_tupK (K := K) rfl) (pv 12) pe_int (fun _ _ => rfl))) (pe_ix (ix_tupK (K := K) rfl) (pv 12) pe_int (fun _ _ => rfl)) (nomark _)))
            (fun _ _ _ _ _ => pv 11)) pa_nil)) pa_nil)))))
      (pss_cons (ps_set (i := 5) scRight.nd rfl (Or.inr rfl) (pe_callB (cr_max rfl) (by rfl) B.max sMax (pa_cons (pe_lc (own := [("row_so", 13)]) (g := gName 13) (tt := tYes) rfl scRight.nd (pi_list (pv 3))
          (blkOk_by (N := nRi) (sc := defScope sRight) (by decide +kernel)) (fun _ _ _ _ _ => pg_name (i := 13) scRight.nd rfl (Or.inl rfl)) (fun _ _ _ _ _ => pts_nil)
          (fun _ _ _ _ _ => pe_callB (call_lenK (K := K) rfl) (by rfl) B.len sLen (pa_cons (pv 13) pa_nil))) pa_nil)))
      (pss_cons (ps_set (i := 6) scRight.nd rfl (Or.inl rfl) (pe_lst (pa_cons (pe_def (E := E0) L.roundL (hr.mono (by decide)) (by rfl) passN (pa_cons (pv 1) pa_nil)) (pa_cons (pe_def (E := E0) L.unr (hr.mono (by decide)) (by rfl) passN (pa_cons (pv 1) pa_nil))
          (pa_cons (pe_def (E := E0) L.most (hr.mono (by decide)) (by rfl) passN (pa_cons (pv 1) pa_nil)) pa_nil)))))
      (pss_cons (ps_if (pt_not (pt_val (pe_defG L.like hgd (hr.mono (by decide)) (by rfl) (pa_cons (pv 6) (pa_cons (pe_lst (pa_cons (pv 2) (pa_cons (pe_callTy call_tuple_of (by rfl) B.tup sTup (pa_cons (pv 3) pa_nil)) (pa_cons (pv 5) pa_nil)))) pa_nil))))) (pss_one (ps_ret pe_bl)) pss_nil)
      (pss_cons (ps_for PassesOwn.never rfl (pi_range1 (by rfl) B.rng (pa_cons pe_int pa_nil)) (pg_name (i := 7) scRight.nd rfl (Or.inl rfl))
        (pss_cons (ps_set (i := 4) scRight.nd rfl (Or.inr rfl) (pe_def L.draw (hr.mono (by decide)) (by rfl) pass0 (pa_cons (pv 0) (pa_cons (pe_op op_pow pe_int pe_int) pa_nil))))
        (pss_one (ps_if (pt_not (pt_val (pe_defG L.like hgd (hr.mono (by decide)) (by rfl) (pa_cons (pe_def L.held (hr.mono (by decide)) (by rfl) pass0 (pa_cons (pv 1) (pa_cons (pv 4) pa_nil))) (pa_cons (pe_ix ix_list (pv 3) (pe_op op_mod (pv 4) (pv 2)) (fun _ _ => rfl)) pa_nil))))) (pss_one (ps_ret pe_bl)) pss_nil))))
      (pss_cons (ps_if (pt_not (pt_val (pe_defG L.like hgd (hr.mono (by decide)) (by rfl) (pa_cons (pe_lc (own := [("room", 14)]) (g := gName 14) (tt := tYes) rfl scRight.nd (pi_range1 (by rfl) B.rng (pa_cons pe_int pa_nil))
            (blkOk_by (N := nRi) (sc := defScope sRight) (by decide +kernel)) (fun _ _ _ _ _ => pg_name (i := 14) scRight.nd rfl (Or.inl rfl)) (fun _ _ _ _ _ => pts_nil)
            (fun _ _ _ _ _ => pe_def (E := E0) L.fits (hr.mono (by decide)) (by rfl) passN (pa_cons (pv 1) (pa_cons (pv 14) pa_nil))))
          (pa_cons (pe_lc (own := [("room", 14)]) (g := gName 14) (tt := tYes) rfl scRight.nd (pi_range1 (by rfl) B.rng (pa_cons pe_int pa_nil))
            (blkOk_by (N := nRi) (sc := defScope sRight) (by decide +kernel)) (fun _ _ _ _ _ => pg_name (i := 14) scRight.nd rfl (Or.inl rfl)) (fun _ _ _ _ _ => pts_nil)
            (fun _ _ _ _ _ => pe_cmpR op_le (pv 5) (pv 14) (nomark _))) pa_nil))))) (pss_one (ps_ret pe_bl)) pss_nil)
      (pss_cons (ps_set (i := 8) scRight.nd rfl (Or.inl rfl) pe_bl)
      (pss_cons (ps_for PassesOwn.never rfl (pi_enumT (by rfl) B.enu (pa_cons (pv 1) pa_nil)) (pg_tup rfl (pgs_cons (pg_name (i := 9) scRight.nd rfl (Or.inl rfl)) (pgs_cons (pg_name (i := 10) scRight.nd rfl (Or.inr rfl)) pgs_nil)))
        (pss_one (ps_set (i := 8) scRight.nd rfl (Or.inl rfl) (pe_and (pv 8) (pe_one (pe_cmpR (op_eqD (hu64 hr)) (pe_lc (own := [("far", 15)]) (g := gName 15) rfl scRight.nd (pi_tup (pe_slice sl_tup (pv 1) po_none (po_some (pv 9))))
            (blkOk_by (N := nRi) (sc := defScope sRight) (by decide +kernel)) (fun _ _ _ _ _ => pg_name (i := 15) scRight.nd rfl (Or.inl rfl))
            (fun _ _ _ _ _ => pts_one (pt_val (pe_def L.meets (hr.mono (by decide)) (by rfl) pass0 (pa_cons (pv 10) (pa_cons (pv 15) pa_nil)))))
            (fun _ _ _ _ _ => pe_int)) (pe_lst pa_nil) (nomark _)))))))
      (pss_one (ps_ret (pe_defG L.like hgd (hr.mono (by decide)) (by rfl) (pa_cons (pe_def (E := E0) L.fits (hr.mono (by decide)) (by rfl) passN (pa_cons (pv 1) (pa_cons pe_int pa_nil))) (pa_cons (pv 8) pa_nil)))))))))))))), ?_⟩
    have L30 := dv.few
    have lc := dv.ok ok
    have L0 := lcA_pos ok.2
    obtain ⟨xa, xs0, rfl, hs, ra⟩ := repTup hx
    have xl := ra.length
    rw [List.length_map] at xl
    -- the round
    refine ⟨_, rfl, .ref xa, bs, rfl, hx, ok, dv, tb, fun H1 g1 => ?_⟩
    have hx1 := g1.rep hx
    have hs1 := sqt_ext g1.ext hs
    have ra1 := ra.ext g1.ext
    have S1 := S.ext g1.ext
    refine ⟨by show 0 ≤ sizeLine; decide, fun l0 k0 => ?_⟩
    have nl := S1.away k0
    refine ⟨_, rfl, _, rfl, by omega, by omega, ?_⟩
    refine for_range (lo := 0) (n := lcA bs) (fun i σ H' => ∃ (s4 : Option V) (xs : List V), Gq T H1 H' ∧ H' l0 = some (.lst xs) ∧ RepAll K H' xs ((List.range i).map fun w => dN (hIn bs w bs.length)) ∧
      σ = [some (.ref st), some (.ref xa), some (.int (lcA bs : Nat)), some (.ref l0), s4, none, none, none, none, none, none, none, none, none, none, none]) ?_ ?_ ?_
    · exact ⟨none, [], (Gq.refl g1.tb).new k0, upd_same, .nil, rfl⟩
    · rintro i σ H' hi ⟨s4, xs, g, h0, rx, rfl⟩
      have ei : (0 : Int) + (i : Nat) = ((i : Nat) : Int) := by omega
      show gName 4 (V.int ((0 : Int) + (i : Nat))) _ _ _
      rw [ei]
      have tbg := g.tb
      have rxl := rx.length
      rw [List.length_map, List.length_range] at rxl
      refine ⟨_, rfl, .inl ⟨rfl, _, SqL.of h0⟩, ?_⟩
      have hsg := sqt_ext g.ext hs1
      refine ⟨_, rfl, xa, xs0, rfl, hsg, fun D2 hD2 => ?_⟩
      refine lc_enumT (K := K) (a := xa) (xs := xs0) (fun k H2 => Gq T H' H2 ∧ H2 D2 = some (.lst ((hIn bs i k).map fun n => V.int (n : Nat)))) ?_ ?_ ?_ ?_
      · exact ⟨(Gq.refl tbg).new hD2, upd_same⟩
      · rintro k H2 _ ⟨g2, _⟩
        exact sqt_ext g2.ext hsg
      · rintro k y U2 H2 hk ⟨g2, h2⟩ hU2
        obtain ⟨b, eb, rb⟩ := bs_at ra1 hk
        have okb := ok.2 b (List.mem_of_getElem? eb)
        have b0 := okb.lo
        obtain ⟨ba, rfl, hb⟩ := repB rb
        have gU := (g.trans g2).new (o := .tup [.int (k : Nat), .ref ba]) hU2
        have gU2 := g2.new (o := .tup [.int (k : Nat), .ref ba]) hU2
        have hb2 := sqt_ext gU.ext hb
        have hD3 : upd H2 U2 (.tup [.int (k : Nat), .ref ba]) D2 = some (.lst ((hIn bs i k).map fun n => V.int (n : Nat))) := by rw [upd_ne (ne_of_none h2 hU2)]; exact h2
        have hlen := hIn_len bs i k
        have kl : k < xs0.length := (List.getElem?_eq_some_iff.mp hk).1
        have ea : hAt bs i k = (i % b.1 == b.2) := by unfold hAt; rw [eb]
        have em : ((i : Nat) : Int) % ((b.1 : Nat) : Int) = ((i % b.1 : Nat) : Int) := (Int.natCast_emod i b.1).symm
        refine ⟨U2, _, rfl, .inl (.inl upd_same), rfl, _, _, rfl, _, _, rfl, rfl, rfl, ?_⟩
        refine ⟨_, rfl, _, rfl, ba, _, _, _, rfl, rfl, hb2, (atI_nat (j := 0) rfl), _, _, rfl, rfl, by omega, ?_⟩
        refine ⟨_, rfl, ba, _, _, _, rfl, rfl, hb2, (atI_nat (j := 1) rfl), rfl, _, rfl, ?_⟩
        by_cases c : i % b.1 = b.2
        · refine ifY (decide_eq_true (by show V.int (((i : Nat) : Int) % ((b.1 : Nat) : Int)) = V.int (b.2 : Nat); rw [em, c])) ?_
          refine ⟨_, rfl, _, hD3, by rw [sizeLine_eq, List.length_map]; omega, gU2.wrote hD2 hD3, ?_⟩
          rw [upd_same, hIn_succ, ea, if_pos (by simp [c]), List.map_append]
          rfl
        · refine ifN (decide_eq_false fun z => c (by have z : V.int (((i : Nat) : Int) % ((b.1 : Nat) : Int)) = V.int (b.2 : Nat) := z; rw [em] at z; have := V.int.inj z; omega)) ?_
          refine ⟨gU2, ?_⟩
          rw [hD3, hIn_succ, ea, if_neg (by simp [c]), List.append_nil]
      · rintro H2 ⟨g2, h2⟩
        refine ⟨D2, _, rfl, .inl ⟨SqL.of h2, fun U2 hU2 => ?_⟩⟩
        have rd : Rep K (upd H2 U2 (.tup ((hIn bs i xs0.length).map fun n => V.int (n : Nat)))) (.ref U2) (dN (hIn bs i bs.length)) := by
          rw [xl]
          exact rep_row upd_same
        have gg := g2.new (o := .tup ((hIn bs i xs0.length).map fun n => V.int (n : Nat))) hU2
        generalize upd H2 U2 (.tup ((hIn bs i xs0.length).map fun n => V.int (n : Nat))) = H3 at rd gg ⊢
        have h3 := gg.ext l0 _ h0 fun ps z => by cases z
        refine ⟨l0, xs, .ref U2, rfl, rfl, h3, by rw [sizeLine_eq]; omega, ?_⟩
        refine ⟨_, xs ++ [.ref U2], (g.trans gg).wrote k0 h3, upd_same, ?_, rfl⟩
        rw [rows_succ]
        refine rep_wrote h3 ((rx.ext gg.ext).append (.cons rd .nil)) fun d hd => ?_
        rcases List.mem_append.mp hd with z | z
        · exact it_rows d z
        · rw [List.mem_singleton.mp z]
          exact ⟨1, it_nats _⟩
    rintro σ H2 ⟨s4, xs, g2, h2, rx, rfl⟩
    have rxl := rx.length
    rw [List.length_map, List.length_range] at rxl
    -- the most
    refine ⟨_, rfl, l0, rfl, ⟨_, SqL.of h2⟩, fun D hD => ?_⟩
    refine lc_list (K := K) (a := l0) (xs := xs) (fun k H3 => Gq T H2 H3 ∧ H3 D = some (.lst ((List.range k).map fun w => V.int (((hIn bs w bs.length).length : Nat) : Int)))) ?_ ?_ ?_ ?_
    · exact ⟨(Gq.refl g2.tb).new hD, upd_same⟩
    · rintro i H3 _ ⟨g3, _⟩
      exact SqL.of (g3.ext l0 _ h2 fun ps z => by cases z)
    · rintro i y H3 hi ⟨g3, h3⟩
      have il := (List.getElem?_eq_some_iff.mp hi).1
      obtain ⟨d, ed, rd⟩ := BK.rep_at rx hi
      have e' : d = dN (hIn bs i bs.length) := by
        rw [List.getElem?_map, List.getElem?_range (by omega)] at ed
        exact (Option.some.inj ed).symm
      subst e'
      obtain ⟨ya, rfl, hy⟩ := repN (g3.rep rd)
      refine ⟨rfl, yes ?_⟩
      rw [if_pos rfl]
      refine ⟨_, rfl, ya, _, rfl, .inr hy, _, h3, by rw [sizeLine_eq, List.length_map, List.length_range]; omega, g3.wrote hD h3, ?_⟩
      rw [upd_same, List.range_succ, List.map_append, List.length_map]
      rfl
    rintro H3 ⟨g3, h3⟩
    rw [rxl, ← lens_map] at h3
    refine ⟨D, _, rfl, SqL.of h3, by rw [List.length_map, List.length_range]; exact L0, fun m' h1 h2' => ?_⟩
    obtain ⟨m, rfl, top⟩ := top_of h1 h2'
    clear h1 h2'
    have m6 : m ≤ 6 := Nat.le_trans top.le l6
    have g13 := g2.trans g3
    have h03 := g3.ext l0 _ h2 fun ps z => by cases z
    have rx3 := rx.ext g3.ext
    have bx3 : Bsx K T (.ref xa) bs H3 := ⟨g13.rep hx1, ok, lc, g13.tb⟩
    have S3 := S1.ext g13.ext
    have gS3 := (Gs.of (st := st) (la := la) (g1.trans g13))
    clear hs hs1 ra ra1 hx hx1 g2 g3 h2 rx h3 hD S1 k0 g13 tb g1
    -- what the program tells
    refine ⟨_, rfl, .ref xa, bs, rfl, bx3, rnd_few L30 fun H4 g4 => ?_⟩
    refine ⟨_, rfl, .ref xa, bs, rfl, bx3.on g4, rnd_few L30 fun v H5 g5 rv => ?_⟩
    refine ⟨_, rfl, .ref xa, bs, rfl, (bx3.on g4).on g5, rnd_few L30 fun m2 H6 g6 t2 => ?_⟩
    have em := t2.eq top
    subst em
    have g36 := (g4.trans g5).trans g6
    refine ⟨by show 3 ≤ sizeLine; decide, fun l1 k1 => ?_⟩
    have g7 := g36.new (o := .lst [.int (lcA bs : Nat), v, .int (m2 : Nat)]) k1
    have h17 := upd_same (H := H6) (a := l1) (o := .lst [.int (lcA bs : Nat), v, .int (m2 : Nat)])
    have rv7 := (g6.rep rv).ext (ext_new (o := .lst [.int (lcA bs : Nat), v, .int (m2 : Nat)]) k1)
    show tSeq _ _ _ _ (upd H6 l1 (.lst [.int (lcA bs : Nat), v, .int (m2 : Nat)]))
    generalize upd H6 l1 (.lst [.int (lcA bs : Nat), v, .int (m2 : Nat)]) = H7 at g7 h17 rv7 ⊢
    have h07 := g7.ext l0 _ h03 fun ps z => by cases z
    refine ⟨_, rfl, _, rfl, _, rfl, l0, xs, rfl, .inl ⟨SqL.of h07, fun U hU => ?_⟩⟩
    refine ⟨_, rfl, by show 3 ≤ sizeLine; decide, fun l2 k2 => ?_⟩
    have rU : Rep K (upd H7 U (.tup xs)) (.ref U) (dRows bs (lcA bs)) := .tup (SqT.of upd_same) ((rx3.ext g7.ext).ext (ext_new hU))
    have g8 := (Gq.refl g7.tb).new (o := .tup xs) hU
    have g9 := g8.new (o := .lst [.int (lcA bs : Nat), .ref U, .int (m2 : Nat)]) k2
    have r1 : Rep K _ (.ref l1) (.list [.int (lcA bs : Nat), dRows bs (lcA bs), .int (m2 : Nat)]) := .lst (SqL.of (g9.ext l1 _ h17 fun ps z => by cases z)) (.cons (.int _) (.cons (g9.rep rv7) (.cons (.int _) .nil)))
    have r2 : Rep K _ (.ref l2) (.list [.int (lcA bs : Nat), dRows bs (lcA bs), .int (m2 : Nat)]) := .lst (SqL.of (upd_same (H := upd H7 U (.tup xs)) (a := l2) (o := .lst [.int (lcA bs : Nat), .ref U, .int (m2 : Nat)]))) (.cons (.int _) (.cons (rU.ext (ext_new k2)) (.cons (.int _) .nil)))
    refine ⟨.ref l1, .ref l2, _, 200000, 3, rfl, r1, r2, shw_got l6 L30 m6, by decide, by decide, _, rfl, ?_⟩
    refine ifN rfl ?_
    have g39 := g7.trans g9
    have h09 := g39.ext l0 _ h03 fun ps z => by cases z
    have rx9 := rx3.ext g39.ext
    have bx9 := bx3.on g39
    have S9 := S3.ext g39.ext
    have gS9 := gS3.grow g39
    generalize upd (upd H7 U (.tup xs)) l2 (.lst [.int (lcA bs : Nat), .ref U, .int (m2 : Nat)]) = H9 at h09 rx9 bx9 S9 gS9 ⊢
    clear r1 r2 g9 g8 rU k2 hU h07 rv7 h17 g7 k1 g36 g4 g5 g6 rv top bx3 S3 gS3 h03 rx3 g39
    -- far weeks
    refine ⟨3, rfl, by decide, by decide, ?_⟩
    refine for_range (lo := 0) (n := (3 : Int).toNat) (fun i σ H' => ∃ (s4 s7 : Option V), StH st la ca (n + i) H' ∧ Gs T st la H9 H' ∧
      σ = [some (.ref st), some (.ref xa), some (.int (lcA bs : Nat)), some (.ref l0), s4, some (.int (m2 : Nat)), some (.ref l1), s7, none, none, none, none, none, none, none, none]) ?_ ?_ ?_
    · exact ⟨_, none, S9, Gs.refl bx9.tb, rfl⟩
    · rintro i σ H' hi ⟨s4, s7, SH, g, rfl⟩
      have hi3 : i < 3 := hi
      refine ⟨_, rfl, _, _, rfl, rfl, ⟨by decide, by decide, by decide⟩, st, la, ca, _, _, rfl, SH, by omega, by decide, by decide, fun r HA r0 r1 sdA SA => ?_⟩
      have gA := g.trans (Gs.drew g.tb SH sdA)
      obtain ⟨u, rfl⟩ : ∃ u : Nat, r = (u : Int) := ⟨r.toNat, by omega⟩
      have rA := gA.it S9 bx9.rep (it_Bs (k := 0) bs)
      refine ⟨_, rfl, _, rfl, .ref xa, bs, u, rfl, rA, ok, gA.tb, fun v HB gB rv => ?_⟩
      have gAB := gA.grow gB
      have hB := gAB.ext l0 _ nl.1 nl.2 h09 fun ps z => by cases z
      have rxB := gAB.repA S9 rx9 (noLA_all fun d hd => by
        obtain ⟨k, hk⟩ := it_rows d hd
        exact hk.noL)
      have ul : u % lcA bs < lcA bs := Nat.mod_lt _ L0
      have hxu : xs[u % lcA bs]? = some (xs[u % lcA bs]'(by omega)) := List.getElem?_eq_getElem (by omega)
      obtain ⟨d, ed, rd⟩ := BK.rep_at rxB hxu
      have e' : d = dN (hIn bs u bs.length) := by
        rw [List.getElem?_map, List.getElem?_range ul] at ed
        rw [← Option.some.inj ed]
        show dN (hIn bs (u % lcA bs) bs.length) = _
        rw [hIn_mod fun b hb => lcA_dvd hb]
      subst e'
      have em : ((u : Nat) : Int) % ((lcA bs : Nat) : Int) = ((u % lcA bs : Nat) : Int) := (Int.natCast_emod u (lcA bs)).symm
      refine ⟨_, rfl, _, rfl, _, rfl, _, _, rfl, rfl, by omega, l0, xs, _, _, rfl, rfl, SqL.of hB, (by rw [em]; exact atI_nat hxu), ?_⟩
      refine ⟨v, _, dN (hIn bs u bs.length), 1000, 1, rfl, rv, rd, shw_h l6, by decide, by decide, _, rfl, ?_⟩
      refine ifN rfl ?_
      exact ⟨_, _, SA.ext gB.ext, gAB, rfl⟩
    rintro σ HA ⟨s4, s7, SA, gA, rfl⟩
    have rA := gA.it S9 bx9.rep (it_Bs (k := 0) bs)
    have bxA : Bsx K T (.ref xa) bs HA := ⟨rA, ok, lc, gA.tb⟩
    have gSA := gS9.trans gA
    have SA : StH st la ca (n + 3) HA := SA
    clear gA rA S9 gS9 bx9 rx9 h09 nl rxl
    -- rooms
    refine ⟨8, rfl, by decide, by decide, fun D hD => ?_⟩
    refine lc_range (lo := 0) (n := (8 : Int).toNat) (fun k HB => Gq T HA HB ∧ HB D = some (.lst ((List.range k).map fun r => V.bl (decide (m2 ≤ r))))) ?_ ?_ ?_
    · exact ⟨(Gq.refl bxA.tb).new hD, upd_same⟩
    · rintro k HB hk ⟨gB, hB⟩
      have k8 : k < 8 := hk
      refine ⟨rfl, yes ?_⟩
      rw [if_pos rfl]
      rw [show (0 : Int) + (k : Nat) = ((k : Nat) : Int) by omega]
      refine ⟨_, rfl, _, rfl, .ref xa, bs, k, rfl, by omega, bxA.on gB, rnd_few L30 fun m3 HC gC t3 => ?_⟩
      have em := t3.eq t2
      subst em
      have hC := gC.ext D _ hB fun ps z => by cases z
      refine ⟨_, hC, by rw [sizeLine_eq, List.length_map, List.length_range]; omega, (gB.trans gC).wrote hD hC, ?_⟩
      rw [upd_same, List.range_succ, List.map_append]
      rfl
    rintro HB ⟨gB, hB⟩
    refine ⟨8, rfl, by decide, by decide, fun D2 hD2 => ?_⟩
    refine lc_range (lo := 0) (n := (8 : Int).toNat) (fun k HC => Gq T HB HC ∧ HC D2 = some (.lst ((List.range k).map fun r => V.bl (decide (m2 ≤ r))))) ?_ ?_ ?_
    · exact ⟨(Gq.refl gB.tb).new hD2, upd_same⟩
    · rintro k HC hk ⟨gC, hC⟩
      have k8 : k < 8 := hk
      refine ⟨rfl, yes ?_⟩
      rw [if_pos rfl]
      refine ⟨_, rfl, _, rfl, _, _, rfl, rfl, _, hC, by rw [sizeLine_eq, List.length_map, List.length_range]; omega, gC.wrote hD2 hC, ?_⟩
      have e : decide (((m2 : Nat) : Int) ≤ (0 : Int) + (k : Nat)) = decide (m2 ≤ k) := by
        by_cases z : m2 ≤ k
        · rw [decide_eq_true z]; exact decide_eq_true (by omega)
        · rw [decide_eq_false z]; exact decide_eq_false (by omega)
      rw [upd_same, List.range_succ, List.map_append]
      show some (HO.lst (_ ++ [V.bl (decide (((m2 : Nat) : Int) ≤ (0 : Int) + (k : Nat)))])) = _
      rw [e]
      rfl
    rintro HC ⟨gC, hC⟩
    have hB2 := gC.ext D _ hB fun ps z => by cases z
    refine ⟨.ref D, .ref D2, _, 1000, 1, rfl, .lst (SqL.of hB2) (rep_bls _ _), .lst (SqL.of hC) (rep_bls _ _), shw_bls _, by decide, by decide, _, rfl, ?_⟩
    refine ifN rfl ?_
    have gBC := gB.trans gC
    have bxC := bxA.on gBC
    have SC := SA.ext gBC.ext
    have gSC := gSA.grow gBC
    clear hB2 hC hD2 hB hD gB gC gBC bxA SA gSA
    -- apart
    obtain ⟨xa', xsC, ex, hsC, raC⟩ := repTup bxC.rep
    cases ex
    have xlC := raC.length
    rw [List.length_map] at xlC
    refine ⟨_, rfl, xa, xsC, rfl, hsC, for_enumT (K := K) (a := xa) (xs := xsC) (fun i σ H' => ∃ (c : Bool) (s9 s10 : Option V), (c = true ↔ ApTo bs i) ∧ Gq T HC H' ∧
      σ = [some (.ref st), some (.ref xa), some (.int (lcA bs : Nat)), some (.ref l0), s4, some (.int (m2 : Nat)), some (.ref l1), s7, some (.bl c), s9, s10, none, none, none, none, none]) ?_ ?_ ?_ ?_⟩
    · exact ⟨true, none, none, ⟨fun _ k j a b hk => absurd hk (Nat.not_lt_zero _), fun _ => rfl⟩, Gq.refl bxC.tb, rfl⟩
    · rintro i σ H' _ ⟨_, _, _, _, g, _⟩
      exact sqt_ext g.ext hsC
    · rintro i y σ H' U hi ⟨c, s9, s10, hc, g, rfl⟩ hU
      obtain ⟨b, eb, rb⟩ := bs_at raC hi
      have il : i < bs.length := (List.getElem?_eq_some_iff.mp eb).1
      have okb := ok.2 b (List.mem_of_getElem? eb)
      have gU := g.new (o := .tup [.int (i : Nat), y]) hU
      have sx := apTo_succ eb
      refine ⟨U, _, rfl, .inl (.inl upd_same), rfl, _, _, rfl, _, _, rfl, rfl, ?_⟩
      refine ⟨_, rfl, c, rfl, ?_⟩
      cases c with
      | false =>
        refine ifN rfl ?_
        exact ⟨false, _, _, ⟨(fun z => by cases z), fun z => hc.mpr (sx.mp z).1⟩, gU, rfl⟩
      | true =>
        refine ifY rfl ?_
        have apI := hc.mp rfl
        have rbs : Rep K (upd H' U (.tup [.int (i : Nat), y])) (.ref xa) (.tuple (bs.map dB)) := gU.rep bxC.rep
        have rbU := gU.rep rb
        refine ⟨_, rfl, _, rfl, _, rfl, ?_⟩
        refine cut_pre (T := T) rbs (by rw [List.length_map]; exact il) gU.tb fun v HD gD rv => ?_
        rw [← List.map_take] at rv
        obtain ⟨va, vs', rfl, hv, rva⟩ := repTup rv
        have vl := rva.length
        rw [List.length_map, List.length_take, Nat.min_eq_left (by omega)] at vl
        have rbD := gD.rep rbU
        refine ⟨va, rfl, ⟨_, hv⟩, fun C hC2 => ?_⟩
        refine lc_tup (K := K) (a := va) (xs := vs') (fun k HE => Gq T HD HE ∧ HE C = some (.lst (List.replicate (nmt (bs.take i) b k) (.int 1)))) ?_ ?_ ?_ ?_
        · exact ⟨(Gq.refl gD.tb).new hC2, upd_same⟩
        · rintro k HE _ ⟨gE, _⟩
          exact sqt_ext gE.ext hv
        · rintro k z HE hk ⟨gE, hE⟩
          obtain ⟨c, ec, rc⟩ := bs_at rva hk
          have okc := ok.2 c (List.mem_of_mem_take (List.mem_of_getElem? ec))
          have cn := nmt_le (bs.take i) b k
          have kl := (List.getElem?_eq_some_iff.mp hk).1
          have es := nmt_succ b ec
          refine ⟨rfl, ?_⟩
          refine ⟨_, rfl, _, rfl, y, z, b, c, rfl, gE.rep rbD, gE.rep rc, okb, okc, _, rfl, ?_⟩
          cases hm : mt b c with
          | true =>
            refine ifY hm ?_
            refine ⟨_, hE, by rw [sizeLine_eq, List.length_replicate]; omega, gE.wrote hC2 hE, ?_⟩
            rw [upd_same, es, if_pos hm, List.replicate_succ']
          | false =>
            refine ifN hm ?_
            exact ⟨gE, by rw [hE, es, if_neg (by rw [hm]; decide)]; rfl⟩
        · rintro HE ⟨gE, hE⟩
          rw [vl] at hE
          refine ⟨by show 0 ≤ sizeLine; decide, fun p hp => ?_⟩
          have h3 : upd HE p (.lst []) C = some (.lst (List.replicate (nmt (bs.take i) b i) (.int 1))) := by rw [upd_ne (ne_of_none hE hp)]; exact hE
          have rr : ∀ (n : Nat) (H : Hp), RepAll K H (List.replicate n (.int 1)) (List.replicate n (.int 1)) := fun n H => by
            induction n with
            | zero => exact .nil
            | succ n ih => exact .cons (.int 1) ih
          refine ⟨.list (List.replicate (nmt (bs.take i) b i) (.int 1)), .list [], dp_of (.lst (SqL.of h3) (rr _ _)), dp_of (.lst (SqL.of upd_same) .nil), shaped_ones _, by decide +kernel, ?_⟩
          rw [eqv_ones]
          refine ⟨nmt (bs.take i) b i == 0, _, _, ?_, ((gU.trans gD).trans gE).new hp, rfl⟩
          rw [sx, beq_iff_eq, nmt_zero okb (fun c hc => ok.2 c (List.mem_of_mem_take hc)) (by rw [List.length_take]; omega)]
          refine ⟨fun h => ⟨apI, fun j c ji hj => h j c (by rw [List.getElem?_take]; rw [if_pos ji]; exact hj)⟩, fun h j c hj => ?_⟩
          rw [List.getElem?_take] at hj
          by_cases ji : j < i
          · rw [if_pos ji] at hj
            exact h.2 j c ji hj
          · rw [if_neg ji] at hj
            cases hj
    · rintro σ H' ⟨c, s9, s10, hc, g, rfl⟩
      rw [xlC] at hc
      refine ⟨_, rfl, .ref xa, bs, 1, rfl, by decide, bxC.on g, rnd_few L30 fun m3 HF gF t3 => ?_⟩
      have e : decide (m3 ≤ 1) = c := by
        have h1 := top_apart ok.2 (fun b hb => lcA_dvd hb) L0 t3
        rw [← apTo_all, ← hc] at h1
        cases c with
        | true => exact decide_eq_true (h1.mpr rfl)
        | false => exact decide_eq_false fun z => by cases h1.mp z
      have gg := g.trans gF
      refine ⟨_, rfl, .bl (decide (m3 ≤ 1)), .bl c, .bool c, 41, 0, rfl, by rw [e]; exact .bl c, .bl c, shw_bl c, by decide, by decide, ?_⟩
      exact q _ (gSC.grow gg) (SC.ext gg.ext)
end
end K2
set_option Elab.async false
set_option linter.all false
set_option maxRecDepth 100000
set_option maxHeartbeats 4000000
/-! KitK: calls by keywords alone. -/
namespace BK
open PySem PySem.Spec PyProof.Rows L2
/-- a def that keeps its promise, called by the keywords ks, in the order that g tells -/
structure DefK (P : Program) (w : World) (K : PySem.W.Frag) (mg : Str → Option Value) (base : Heap) (CX : CXT) (k : Nat) (x : Str) (ps ks : List Str) (g : List Value → List Value) (gV : List V → List V) (sp : Sp) : Prop where
  ex : ∃ (f : Addr) (fd : FuncData), FnOk P w K mg base CX k f fd ps sp ∧ mg x = some (.ref f) ∧ PySem.W.keepIn K (.ref f) = true ∧ KBn K fd ps 0 ks (fun _ ws => g ws) (fun _ zs => gV zs)
section
variable {P : Program} {w : World} {K : PySem.W.Frag} {mg : Str → Option Value} {base : Heap} {CX : CXT} {k : Nat} {x : Str} {ps ks : List Str} {g : List Value → List Value} {gV : List V → List V} {sp : Sp}
theorem DefK.of {st : Stmt} (D : Def P w K mg base CX k x ps sp) (A : At K mg x st ps) (rel : ∀ {zs : List V} {ws : List Value}, Vals zs ws → Vals (gV zs) (g ws))
    (h : ∀ (kV doc pm : Value) (an : Option Addr) (cdv ct : Value) (ws : List Value), ws.length = ks.length → bindArgs (PySem.W.fnOf x x (defArgs st) (defBody st) (defScope st) .none kV doc pm an cdv ct) ⟨[], ks.zip ws⟩ = pure (ps.zip (g ws))) : DefK P w K mg base CX k x ps ks g gV sp := by
  obtain ⟨f, fd, F, m, kp, _, oc, od, osl, lk⟩ := D.ex
  obtain ⟨f', fd', Fn, m', _⟩ := A.ex
  obtain ⟨oc', od', kV, doc, pm, an, cdv, ct, osl', e, lk', _⟩ := Fn.ex
  rw [m] at m'
  cases m'
  rw [lk] at lk'
  cases lk'
  subst e
  refine ⟨f, _, F, m, kp, ⟨fun s us ws _ l1 l2 => ?_, fun _ rz => rel rz⟩⟩
  have eu : us = [] := List.eq_nil_of_length_eq_zero l1
  subst eu
  exact BindsTo.of_eq (h kV doc pm an cdv ct ws l2)
end
section
variable {X : Cx} {CX : CXT} {k : Nat} {ps ks : List Str} {sp : Sp} {E : XK} {x : Str} {p pos : Pos} {kws : List Keyword} {tk : TA} {g : List Value → List Value} {gV : List V → List V}
def tCallW (n : Nat) (sp : Sp) (gV : List V → List V) (E : XK) (tk : TA) : TE := fun σ H Q => tk σ H fun zs H2 => zs.length = n ∧ sp (gV zs) H2 Q E
theorem pe_defK (D : DefK X.prog X.w X.K X.mg X.base CX k x ps ks g gV sp) (hr : Room k X.A) (hg : Gl X x) (hx : Passes CX X E) (hkw : PK X kws tk) (hall : (backToKw pos (keywordEach kws X.env)).all (·.1.isSome) = true := by rfl) (hks : (backToKw pos (keywordEach kws X.env)).filterMap (·.1) = ks := by rfl)
    (hdb : (x == ("__debug__" : Str)) = false := by decide) (hpl : ((backTo pos (starEach [] X.env)).any (·.1) || (backToKw pos (keywordEach kws X.env)).any (·.1.isNone)) = false := by rfl) :
    PE X (.Call (.Name x p) [] kws pos) (tCallW ks.length sp gV E tk) := by
  obtain ⟨f, fd, F, m, kp, b⟩ := D.ex
  constructor
  intro pins s σ H Q I h
  apply wpAny_Call_Name_kw
  apply ld_glob I hg m _ hdb
  apply PySem.W.callWith_KW0 (h₀ := X.base) I.ok.mod.kin kp hall _ hpl
  apply thn (hkw.run pos pins s σ H _ I h)
  rintro ws s2 ⟨zs, H2, I2, rz, ln, q2⟩
  refine ⟨I2.kIn, ?_⟩
  rw [hks]
  exact run_fnN (us := []) (vs := []) F hr b hx I2 .nil rz rfl ln q2
end
end BK
set_option Elab.async false
set_option linter.all false
set_option maxRecDepth 100000
set_option maxHeartbeats 8000000
/-! W2: the law itself. -/
namespace K2
open PySem PySem.Spec PyProof.Rows L2 BK LamX
theorem AtC.okG {P : Program} {w : World} {K : PySem.W.Frag} {mg : Str → Option Value} {base : Heap} {x : Str} {st : Stmt} {N ps : List Str} {k : Nat} {sp : Sp} {PA : Addr} (a : AtC K mg base x st ps PA) (S : FnScope N ps (defScope st)) (len : ∀ vs H Q E, sp vs H Q E → vs.length = ps.length)
    (hbody : ∀ (f c : Addr) (A : Around) (outer : List Env) (s : Shared) (H : Hp) (vs : List V) (Q : VK) (E : XK), LamX.TabB base mg c PA → A.guards = some [] → Room k (A.deeper (envOfC x (defScope st) s.heap.objs.size f (.ref c))) → sp vs H Q E →
      ∃ t, PSs (cxOf CX0 P w K mg base N x (defScope st) f (.ref c) A outer s H E).nox (defBody st) t ∧ t { nx := fun _ H' => Q .non H', rt := Q } (L2.start N vs) H) : DefG P w K mg base (k + 1) x ps sp := by
  obtain ⟨f, oc, od, kV, doc, pm, an, c, ct, osl, lk, hcd, kp, m, b, tb⟩ := a.ex
  refine ⟨f, _, ⟨len, ?_⟩, m, kp, b, oc, od, osl, lk⟩
  intro A outer s H args us vs Q E hgd hr e0 hb r hsp
  apply LamX.run_ofS lk hcd S hr e0 hb r (len _ _ _ _ hsp)
  intro hr'
  obtain ⟨t, ht, hq⟩ := hbody f c A outer s H vs Q E tb hgd hr' hsp
  exact ⟨t, ht.nox, hq⟩
theorem sqt_wr {K : PySem.W.Frag} {H : Hp} {l a : Addr} {ys xs : List V} {o : HO} (h : H l = some (.lst ys)) (s : SqT K H a xs) : SqT K (upd H l o) a xs := by
  rcases s with (q | ⟨o', q⟩) | q
  · exact .inl (.inl (by rw [upd_ne (fun z => by rw [z, h] at q; cases q)]; exact q))
  · exact .inl (.inr ⟨o', by rw [upd_ne (fun z => by rw [z, h] at q; cases q)]; exact q⟩)
  · exact .inr q
mutual
/-- a list is written: what holds no list stays -/
theorem rep_wrL {K : PySem.W.Frag} {H : Hp} {l : Addr} {ys : List V} {o : HO} (h : H l = some (.lst ys)) : ∀ {v : V} {d : PyData}, Rep K H v d → BK.noL d = true → Rep K (upd H l o) v d
  | _, _, .non, _ => .non
  | _, _, .bl b, _ => .bl b
  | _, _, .int i, _ => .int i
  | _, _, .str x, _ => .str x
  | _, _, .lst _ _, n => by simp [BK.noL] at n
  | _, _, .tup hs r, n => .tup (sqt_wr h hs) (rep_wrLA h r (by simpa [BK.noL] using n))
theorem rep_wrLA {K : PySem.W.Frag} {H : Hp} {l : Addr} {ys : List V} {o : HO} (h : H l = some (.lst ys)) : ∀ {vs : List V} {ds : List PyData}, RepAll K H vs ds → BK.noL.noLA ds = true → RepAll K (upd H l o) vs ds
  | _, _, .nil, _ => .nil
  | _, _, .cons hd r, n => by
    simp only [BK.noL.noLA, Bool.and_eq_true] at n
    exact .cons (rep_wrL h hd n.1) (rep_wrLA h r n.2)
end
def bLet : List Bt := [(8, 0), (9, 0), (5, 1), (7, 2)]
def bGreat : List Bt := [(16, 0), (9, 0), (5, 1), (7, 2)]
def bTwo : List Bt := [(2, 0), (2, 0), (2, 1)]
theorem let_ok : BtsOk bLet ∧ LcOk (pds bLet) ∧ lcA bLet = 2520 := by
  refine ⟨⟨by decide, fun b hb => ?_⟩, fun i hi => ?_, by decide +kernel⟩
  · simp only [bLet, List.mem_cons, List.not_mem_nil, or_false] at hb
    rcases hb with rfl | rfl | rfl | rfl <;> exact ⟨by decide, by decide, by decide⟩
  · have hi : i < 4 := hi
    match i, hi with
    | 0, _ => decide +kernel
    | 1, _ => decide +kernel
    | 2, _ => decide +kernel
    | 3, _ => decide +kernel
theorem great_ok : BtsOk bGreat ∧ LcOk (pds bGreat) ∧ 2520 < lcA bGreat := by
  refine ⟨⟨by decide, fun b hb => ?_⟩, fun i hi => ?_, by decide +kernel⟩
  · simp only [bGreat, List.mem_cons, List.not_mem_nil, or_false] at hb
    rcases hb with rfl | rfl | rfl | rfl <;> exact ⟨by decide, by decide, by decide⟩
  · have hi : i < 4 := hi
    match i, hi with
    | 0, _ => decide +kernel
    | 1, _ => decide +kernel
    | 2, _ => decide +kernel
    | 3, _ => decide +kernel
theorem two_ok : BtsOk bTwo ∧ LcOk (pds bTwo) ∧ lcA bTwo = 2 := by
  refine ⟨⟨by decide, fun b hb => ?_⟩, fun i hi => ?_, by decide +kernel⟩
  · simp only [bTwo, List.mem_cons, List.not_mem_nil, or_false] at hb
    rcases hb with rfl | rfl | rfl <;> exact ⟨by decide, by decide, by decide⟩
  · have hi : i < 3 := hi
    match i, hi with
    | 0, _ => decide +kernel
    | 1, _ => decide +kernel
    | 2, _ => decide +kernel
theorem nil_ok : BtsOk [] ∧ LcOk (pds []) ∧ lcA [] = 1 := ⟨⟨by decide, fun b hb => by cases hb⟩, fun i hi => absurd hi (Nat.not_lt_zero _), rfl⟩
def dG : PyData := .tuple [.str "great", .int 2520, .bool true]
def dI : PyData := .tuple [.str "is", .int 2520]
theorem noL_got (i : Nat) : ∀ d ∈ ([dI, .int 2520, .bool true] ++ List.replicate i dG) ++ [dG], noL d = true := fun d hd => by
  rcases List.mem_append.mp hd with z | z
  · rcases List.mem_append.mp z with z | z
    · simp only [List.mem_cons, List.not_mem_nil, or_false] at z
      rcases z with rfl | rfl | rfl <;> decide +kernel
    · rw [(List.mem_replicate.mp z).2]
      decide +kernel
  · rw [List.mem_singleton.mp z]
    decide +kernel
theorem shw_last : Shw (.list (([dI, .int 2520, .bool true] ++ List.replicate 4 dG) ++ [.bool true, .bool false, .tuple [.tuple []], .int 0])) 2000 4 := ⟨⟨by decide +kernel, by decide +kernel, by decide +kernel⟩, by decide +kernel⟩
theorem top_two : IsTop bTwo (lcA bTwo) 2 := by
  rw [two_ok.2.2]
  refine ⟨⟨0, by decide, by decide +kernel⟩, fun w hw => ?_⟩
  match w, hw with
  | 0, _ => decide +kernel
  | 1, _ => decide +kernel
def spLaw (K : PySem.W.Frag) (T : List (Addr × Str)) : Sp := fun vs H Q _ => ∃ (a : Addr) (ns : List Int), vs = [.ref a] ∧ SqL K H a (ns.map V.int) ∧ ns.length ≤ 63 ∧ Tabs T H ∧ ∀ H', Q (.bl true) H'
def nLa : List Str := ["script", "state", "turn", "got", "due", "call", "great", "let"]
def qLaw : Str := (envOfC "law" (defScope sLaw) 0 0 .none).qual ++ "<lambda>"
structure Pk (P : Program) (w : World) (K : PySem.W.Frag) (mg : Str → Option Value) (base : Heap) (T : List (Addr × Str)) (TG HE : Addr) : Prop where
  begin : Def P w K mg base CX0 1 "_law_begin" ["script"] (spBegin K)
  beats : Def P w K mg base CX0 3 "_law_beats" ["state"] (spBeatsL K T)
  right : DefG P w K mg base 7 "_law_right" ["state", "some"] (spRight K T)
  et : ErrG K mg TG HE
  heard : At K mg "_law_heard" sHeard ["call"]
  kFits : DefK P w K mg base (L2.CX P w) 6 "fits" ["beats", "rooms"] ["beats", "rooms"] (fun ws => ws) (fun zs => zs) (spFits K T TG)
section
variable {P : Program} {w : World} {K : PySem.W.Frag} {mg : Str → Option Value} {base : Heap} {T : List (Addr × Str)} {TG HE : Addr}
theorem scLaw : FnScope nLa ["script"] (defScope sLaw) := ⟨rfl, rfl, rfl, by decide +kernel, rfl, by decide +kernel, by decide +kernel⟩
theorem def_law (L : Prg P w K mg base T TG) (Z : Pk P w K mg base T TG HE) {PL : Addr} (F : AtC K mg base "law" sLaw ["script"] PL) (mq : (PL, qLaw) ∈ T) (uq : ∀ p ∈ T, p.1 = PL → p.2 = qLaw) : DefG P w K mg base 9 "law" ["script"] (spLaw K T) := by
  refine AtC.okG F scLaw (fun vs H Q E h => ?_) (fun fa cc A outer s H vs Q E tbb hgd hr h => ?_)
  · obtain ⟨a, ns, rfl, _⟩ := h
    rfl
  · obtain ⟨a, ns, rfl, ha, hn, tg, q⟩ := h
    have B := L.bl
    obtain ⟨f1, m1, X1⟩ := heldX L.roundL
    obtain ⟨f2, m2, X2⟩ := heldX L.unr
    obtain ⟨f3, m3, X3⟩ := heldX L.most
    refine ⟨_, pss_cons (ps_set (i := 1) scLaw.nd rfl (Or.inl rfl) (pe_def Z.begin (hr.mono (by decide)) (by rfl) pass0 (pa_cons (pv 0) pa_nil)))
      (pss_cons (ps_for PassesOwn.never rfl (pi_range1 (by rfl) B.rng (pa_cons pe_int pa_nil)) (pg_name (i := 2) scLaw.nd rfl (Or.inl rfl))
        (pss_one (ps_if (pt_not (pt_val (pe_defG Z.right hgd (hr.mono (by decide)) (by rfl) (pa_cons (pv 1) (pa_cons (pe_def Z.beats (hr.mono (by decide)) (by rfl) pass0 (pa_cons (pv 1) pa_nil)) pa_nil))))) (pss_one (ps_ret pe_bl)) pss_nil)))
      (pss_cons (ps_asg (pe_tup (pa_cons (pe_tup (pa_cons (pe_tup (pa_cons pe_int (pa_cons pe_int pa_nil))) (pa_cons (pe_tup (pa_cons pe_int (pa_cons pe_int pa_nil))) (pa_cons (pe_tup (pa_cons pe_int (pa_cons pe_int pa_nil))) (pa_cons (pe_tup (pa_cons pe_int (pa_cons pe_int pa_nil))) pa_nil)))))
            (pa_cons (pe_tup (pa_cons (pe_tup (pa_cons pe_int (pa_cons pe_int pa_nil))) (pa_cons (pe_tup (pa_cons pe_int (pa_cons pe_int pa_nil))) (pa_cons (pe_tup (pa_cons pe_int (pa_cons pe_int pa_nil))) (pa_cons (pe_tup (pa_cons pe_int (pa_cons pe_int pa_nil))) pa_nil))))) pa_nil)))
          (pg_tup rfl (pgs_cons (pg_name (i := 7) scLaw.nd rfl (Or.inr rfl)) (pgs_cons (pg_name (i := 6) scLaw.nd rfl (Or.inr rfl)) pgs_nil))))
      (pss_cons (ps_set (i := 3) scLaw.nd rfl (Or.inl rfl) (pe_lst (pa_cons (pe_heard (k := 6) Z.et Z.heard (by rfl) tbb rfl mq uq hr (lamS_by (sc := defScope sLaw) (by decide +kernel)) (by rfl) (fun _ _ _ _ _ => by rfl)
            (fun A2 outer2 s2 H2 E2 g2 c2 hr2 => pe_def (E := E2) L.roundL (hr2.mono (by decide)) (by rfl) (passes_call (takes_of rfl rfl rfl rfl) fun _ _ _ _ h => h) (pa_cons (pv 7) pa_nil)))
          (pa_cons (pe_callB call_len_seq (by rfl) B.len sLen (pa_cons (pe_def (E := E0) L.unr (hr.mono (by decide)) (by rfl) passN (pa_cons (pv 7) pa_nil)) pa_nil))
          (pa_cons (pe_defK (E := E0) Z.kFits (hr.mono (by decide)) (by rfl) passN (pk_cons (pv 7) (pk_cons pe_int pk_nil))) pa_nil)))))
      (pss_cons (ps_for PassesOwn.never rfl (pi_tup (pe_tup (pa_cons (pe_glob (v := .ref f1) (by rfl) m1 rfl) (pa_cons (pe_glob (v := .ref f2) (by rfl) m2 rfl) (pa_cons (pe_glob (v := .ref f3) (by rfl) m3 rfl) pa_nil))))) (pg_name (i := 5) scLaw.nd rfl (Or.inr rfl))
        (pss_one (ps_expr (pe_bm PySem.F.plainAttrs_list PySem.F.slot_list_append PySem.F.type_list_append mt_append (pv 3) (pa_cons (pe_heard (k := 6) (t := fun E2 => tCallX P w K mg base 5 5 E2 (tCons (tVar 6) tNil)) Z.et Z.heard (by rfl) tbb rfl mq uq hr (lamS_by (sc := defScope sLaw) (by decide +kernel)) (by rfl) (fun _ _ _ _ _ => by rfl)
            (fun A2 outer2 s2 H2 E2 g2 c2 hr2 => pe_callX (X := lamCx _ A2 outer2 s2 H2 E2 _ g2 c2) (i := 5) (k := 5) (hr2.mono (by decide)) rfl (Or.inr (Or.inr (by rfl))) (passes_call (takes_of rfl rfl rfl rfl) fun _ _ _ _ h => h) (pa_cons (pv 6) pa_nil))) pa_nil)))))
      (pss_cons (ps_expr (pe_bm PySem.F.plainAttrs_list PySem.F.slot_list_append PySem.F.type_list_append mt_append (pv 3) (pa_cons (pe_heard (k := 6) Z.et Z.heard (by rfl) tbb rfl mq uq hr (lamS_by (sc := defScope sLaw) (by decide +kernel)) (by rfl) (fun _ _ _ _ _ => by rfl)
            (fun A2 outer2 s2 H2 E2 g2 c2 hr2 => pe_def (E := E2) L.fits hr2 (by rfl) (passes_call (takes_of rfl rfl rfl rfl) fun _ _ _ _ h => h) (pa_cons (pv 6) (pa_cons pe_int pa_nil)))) pa_nil)))
      (pss_cons (ps_set (i := 4) scLaw.nd rfl (Or.inl rfl) (pe_op op_cat (pe_lst (pa_cons (pe_tup (pa_cons pe_str (pa_cons pe_int pa_nil))) (pa_cons pe_int (pa_cons pe_bl pa_nil)))) (pe_op op_rep (pe_lst (pa_cons (pe_tup (pa_cons pe_str (pa_cons pe_int (pa_cons pe_bl pa_nil)))) pa_nil)) pe_int)))
      (pss_cons (ps_set (i := 3) scLaw.nd rfl (Or.inl rfl) (pe_op op_cat (pv 3) (pe_lst (pa_cons (pe_def (E := E0) L.fits (hr.mono (by decide)) (by rfl) passN (pa_cons (pe_tup (pa_cons (pe_tup (pa_cons pe_int (pa_cons pe_int pa_nil))) (pa_cons (pe_tup (pa_cons pe_int (pa_cons pe_int pa_nil))) (pa_cons (pe_tup (pa_cons pe_int (pa_cons pe_int pa_nil))) pa_nil)))) (pa_cons pe_int pa_nil)))
          (pa_cons (pe_def (E := E0) L.fits (hr.mono (by decide)) (by rfl) passN (pa_cons (pe_tup (pa_cons (pe_tup (pa_cons pe_int (pa_cons pe_int pa_nil))) (pa_cons (pe_tup (pa_cons pe_int (pa_cons pe_int pa_nil))) (pa_cons (pe_tup (pa_cons pe_int (pa_cons pe_int pa_nil))) pa_nil)))) (pa_cons pe_int pa_nil)))
          (pa_cons (pe_def (E := E0) L.unr (hr.mono (by decide)) (by rfl) passN (pa_cons (pe_tup pa_nil) pa_nil)) (pa_cons (pe_def (E := E0) L.most (hr.mono (by decide)) (by rfl) passN (pa_cons (pe_tup pa_nil) pa_nil)) pa_nil)))))))
      (pss_one (ps_ret (pe_defG L.like hgd (hr.mono (by decide)) (by rfl) (pa_cons (pv 3) (pa_cons (pe_op op_cat (pv 4) (pe_lst (pa_cons pe_bl (pa_cons pe_bl (pa_cons (pe_tup (pa_cons (pe_tup pa_nil) pa_nil)) (pa_cons pe_int pa_nil)))))) pa_nil)))))))))))), ?_⟩
    obtain ⟨lo1, lo2, lo3⟩ := let_ok
    obtain ⟨go1, go2, go3⟩ := great_ok
    obtain ⟨to1, to2, to3⟩ := two_ok
    obtain ⟨no1, no2, no3⟩ := nil_ok
    refine ⟨_, rfl, a, ns, rfl, ha, hn, fun st la ca H1 s1 nst nla hst => ?_⟩
    have tb1 : Tabs T H1 := tg.ext s1
    clear s1 nst nla tg ha hn
    refine ⟨4, rfl, by decide, by decide, ?_⟩
    refine for_range (fun i σ H' => ∃ (m : Nat) (x2 : Option V), StH st la ca m H' ∧ Tabs T H' ∧ m ≤ 40 * i ∧ σ = [some (.ref a), some (.ref st), x2, none, none, none, none, none]) ?_ ?_ ?_
    · exact ⟨0, none, hst, tb1, by omega, rfl⟩
    · rintro i σ H2 hi ⟨m, x2, S2, tb2, hm, rfl⟩
      have hi4 : i < 4 := hi
      refine ⟨_, rfl, _, rfl, st, la, ca, m, rfl, S2, by omega, tb2, fun v bs n' H3 ok l6 dv hn' g3 S3 rv => ?_⟩
      refine ⟨st, la, ca, n', v, bs, rfl, S3, by omega, rv, ok, l6, dv, g3.tb, fun H4 g4 S4 => ⟨_, rfl, ?_⟩⟩
      refine ifN rfl ?_
      exact ⟨n' + 3, _, S4, g4.tb, by omega, rfl⟩
    rintro σ H2 ⟨m, x2, S2, tb2, hm, rfl⟩
    clear S2 hm hst tb1
    refine ⟨by show 2 ≤ sizeLine; decide, fun q1 kq1 => ⟨by show 2 ≤ sizeLine; decide, fun q2 kq2 => ⟨by show 2 ≤ sizeLine; decide, fun q3 kq3 => ⟨by show 2 ≤ sizeLine; decide, fun q4 kq4 => ⟨by show 4 ≤ sizeLine; decide, fun q5 kq5 => ⟨by show 2 ≤ sizeLine; decide, fun q6 kq6 => ⟨by show 2 ≤ sizeLine; decide, fun q7 kq7 => ⟨by show 2 ≤ sizeLine; decide, fun q8 kq8 => ⟨by show 2 ≤ sizeLine; decide, fun q9 kq9 => ⟨by show 4 ≤ sizeLine; decide, fun q10 kq10 => ⟨by show 2 ≤ sizeLine; decide, fun q11 kq11 => ?_⟩⟩⟩⟩⟩⟩⟩⟩⟩⟩⟩
    have rL : Rep K _ (.ref q5) (dBs bLet) := (((((((rep_tnew (K := K) kq5 (.cons ((((rep_tnew (K := K) kq1 (.cons (.int 8) (.cons (.int 0) .nil))).ext (ext_new (o := .tup [.int 9, .int 0]) kq2)).ext (ext_new (o := .tup [.int 5, .int 1]) kq3)).ext (ext_new (o := .tup [.int 7, .int 2]) kq4)) (.cons (((rep_tnew (K := K) kq2 (.cons (.int 9) (.cons (.int 0) .nil))).ext (ext_new (o := .tup [.int 5, .int 1]) kq3)).ext (ext_new (o := .tup [.int 7, .int 2]) kq4)) (.cons ((rep_tnew (K := K) kq3 (.cons (.int 5) (.cons (.int 1) .nil))).ext (ext_new (o := .tup [.int 7, .int 2]) kq4)) (.cons (rep_tnew (K := K) kq4 (.cons (.int 7) (.cons (.int 2) .nil))) .nil))))).ext (ext_new (o := .tup [.int 16, .int 0]) kq6)).ext (ext_new (o := .tup [.int 9, .int 0]) kq7)).ext (ext_new (o := .tup [.int 5, .int 1]) kq8)).ext (ext_new (o := .tup [.int 7, .int 2]) kq9)).ext (ext_new (o := .tup [.ref q6, .ref q7, .ref q8, .ref q9]) kq10)).ext (ext_new (o := .tup [.ref q5, .ref q10]) kq11))
    have rG : Rep K _ (.ref q10) (dBs bGreat) := ((rep_tnew (K := K) kq10 (.cons ((((rep_tnew (K := K) kq6 (.cons (.int 16) (.cons (.int 0) .nil))).ext (ext_new (o := .tup [.int 9, .int 0]) kq7)).ext (ext_new (o := .tup [.int 5, .int 1]) kq8)).ext (ext_new (o := .tup [.int 7, .int 2]) kq9)) (.cons (((rep_tnew (K := K) kq7 (.cons (.int 9) (.cons (.int 0) .nil))).ext (ext_new (o := .tup [.int 5, .int 1]) kq8)).ext (ext_new (o := .tup [.int 7, .int 2]) kq9)) (.cons ((rep_tnew (K := K) kq8 (.cons (.int 5) (.cons (.int 1) .nil))).ext (ext_new (o := .tup [.int 7, .int 2]) kq9)) (.cons (rep_tnew (K := K) kq9 (.cons (.int 7) (.cons (.int 2) .nil))) .nil))))).ext (ext_new (o := .tup [.ref q5, .ref q10]) kq11))
    have tX := (((((((((((((Gq.refl tb2).new (o := .tup [.int 8, .int 0]) kq1).new (o := .tup [.int 9, .int 0]) kq2).new (o := .tup [.int 5, .int 1]) kq3).new (o := .tup [.int 7, .int 2]) kq4).new (o := .tup [.ref q1, .ref q2, .ref q3, .ref q4]) kq5).new (o := .tup [.int 16, .int 0]) kq6).new (o := .tup [.int 9, .int 0]) kq7).new (o := .tup [.int 5, .int 1]) kq8).new (o := .tup [.int 7, .int 2]) kq9).new (o := .tup [.ref q6, .ref q7, .ref q8, .ref q9]) kq10).new (o := .tup [.ref q5, .ref q10]) kq11)).tb
    refine ⟨q11, _, rfl, .inl (.inl upd_same), rfl, _, _, rfl, _, _, rfl, rfl, ?_⟩
    generalize (upd (upd (upd (upd (upd (upd (upd (upd (upd (upd (upd H2 q1 (.tup [.int 8, .int 0])) q2 (.tup [.int 9, .int 0])) q3 (.tup [.int 5, .int 1])) q4 (.tup [.int 7, .int 2])) q5 (.tup [.ref q1, .ref q2, .ref q3, .ref q4])) q6 (.tup [.int 16, .int 0])) q7 (.tup [.int 9, .int 0])) q8 (.tup [.int 5, .int 1])) q9 (.tup [.int 7, .int 2])) q10 (.tup [.ref q6, .ref q7, .ref q8, .ref q9])) q11 (.tup [.ref q5, .ref q10])) = HX at rL rG tX ⊢
    clear tb2 kq1 kq2 kq3 kq4 kq5 kq6 kq7 kq8 kq9 kq10 kq11
    have bL : ∀ {H'}, Gq T HX H' → Bsx K T (.ref q5) bLet H' := fun g => ⟨g.rep rL, lo1, lo2, g.tb⟩
    have bG : ∀ {H'}, Gq T HX H' → Bsx K T (.ref q10) bGreat H' := fun g => ⟨g.rep rG, go1, go2, g.tb⟩
    -- told
    refine ⟨tX, fun H3 e3 t3 => ?_⟩
    have g3 : Gq T HX H3 := ⟨e3, t3⟩
    refine ⟨_, rfl, .ref q5, bLet, rfl, bL g3, ⟨fun z => absurd z (by rw [lo3]; decide), fun _ H4 g4 p4 kp4 => ?_⟩⟩
    have eI : dI = .tuple [.str "is", .int ((lcA bLet : Nat) : Int)] := by rw [lo3]; rfl
    have rI : Rep K (upd H4 p4 (.tup [.str "is", .int ((lcA bLet : Nat) : Int)])) (.ref p4) dI := by
      rw [eI]
      exact rep_tnew kp4 (.cons (.str _) (.cons (.int _) .nil))
    have g5 := (g3.trans g4).new (o := .tup [.str "is", .int ((lcA bLet : Nat) : Int)]) kp4
    generalize upd H4 p4 (.tup [.str "is", .int ((lcA bLet : Nat) : Int)]) = H5 at rI g5 ⊢
    refine ⟨_, rfl, .ref q5, bLet, rfl, bL g5, ⟨fun z => absurd z (by rw [lo3]; decide), fun _ v H6 g6 rv => ?_⟩⟩
    obtain ⟨va, vs', rfl, hv, rva⟩ := repTup rv
    have vl : vs'.length = 2520 := by
      have := rva.length
      rw [List.length_map, List.length_range, lo3] at this
      exact this
    refine ⟨va, vs', rfl, .inr hv, ?_⟩
    refine ⟨_, rfl, rfl, .ref q5, bLet, 4, rfl, by decide, bL (g5.trans g6), ⟨fun z => absurd z (by rw [lo3]; decide), fun _ m H7 g7 t7 => ?_⟩⟩
    have m4 : decide (m ≤ 4) = true := decide_eq_true t7.le
    refine ⟨by show 3 ≤ sizeLine; decide, fun l1 kl => ?_⟩
    have g67 := g6.trans g7
    have gX7 := g5.trans g67
    have rW : RepAll K H7 [.ref p4, .int (vs'.length : Nat), .bl (decide (m ≤ 4))] [dI, .int 2520, .bool true] := .cons (g67.rep rI) (.cons (by rw [vl]; exact .int _) (.cons (by rw [m4]; exact .bl _) .nil))
    show tSeq _ _ _ _ (upd H7 l1 (.lst [.ref p4, .int (vs'.length : Nat), .bl (decide (m ≤ 4))]))
    generalize [V.ref p4, .int (vs'.length : Nat), .bl (decide (m ≤ 4))] = W0 at rW ⊢
    have w0 := rW.length
    refine ⟨by show 3 ≤ sizeLine; decide, fun pc kc => ?_⟩
    have npl : pc ≠ l1 := fun z => by rw [z, upd_same] at kc; cases kc
    have h71 : upd (upd H7 l1 (.lst W0)) pc (.tup [.ref f1, .ref f2, .ref f3]) l1 = some (.lst W0) := by rw [upd_ne (fun z => npl z.symm), upd_same]
    refine ⟨pc, rfl, ⟨_, SqT.of upd_same⟩, for_tup (K := K) (a := pc) (xs := [.ref f1, .ref f2, .ref f3]) (fun i σ H' => ∃ (s5 : Option V) (zs : List V), Gq T H7 H' ∧ H' pc = some (.tup [.ref f1, .ref f2, .ref f3]) ∧ H' l1 = some (.lst zs) ∧ RepAll K H' zs ([dI, .int 2520, .bool true] ++ List.replicate i dG) ∧
      σ = [some (.ref a), some (.ref st), x2, some (.ref l1), none, s5, some (.ref q10), some (.ref q5)]) ?_ ?_ ?_ ?_⟩
    · exact ⟨none, W0, ((Gq.refl gX7.tb).new kl).new kc, upd_same, h71, (rW.ext (ext_new kl)).ext (ext_new kc), rfl⟩
    · rintro i σ H' _ ⟨_, _, _, hp, _⟩
      exact SqT.of hp
    · rintro i y σ H' hi ⟨s5, zs, g, hp, h1, rz, rfl⟩
      have key : ∃ f sp, y = .ref f ∧ HeldX P w K mg base 5 f sp ∧ ∀ (x : V) (H : Hp) (Q : VK) (E : XK), Bsx K T x bGreat H → Big T TG H E → sp [x] H Q E := by
        match i, hi with
        | 0, hi => exact ⟨f1, _, (Option.some.inj hi).symm, X1, fun x H Q E bx bg => ⟨x, bGreat, rfl, bx, fun _ => bg, fun z => absurd z (by omega)⟩⟩
        | 1, hi => exact ⟨f2, _, (Option.some.inj hi).symm, X2, fun x H Q E bx bg => ⟨x, bGreat, rfl, bx, fun _ => bg, fun z => absurd z (by omega)⟩⟩
        | 2, hi => exact ⟨f3, _, (Option.some.inj hi).symm, X3, fun x H Q E bx bg => ⟨x, bGreat, rfl, bx, fun _ => bg, fun z => absurd z (by omega)⟩⟩
      have il : i < 3 := (List.getElem?_eq_some_iff.mp hi).1
      obtain ⟨fy, sp, rfl, Xf, hk⟩ := key
      have zl := rz.length
      rw [List.length_append, List.length_replicate] at zl
      refine ⟨_, rfl, .inl ⟨rfl, _, SqL.of h1⟩, g.tb, fun Ha ea ta => ⟨fy, sp, rfl, Xf, _, rfl, hk _ _ _ _ (bG ((gX7.trans g).trans ⟨ea, ta⟩)) fun Hb dd gb hd => ⟨rfl, dd, _, rfl, hd, fun p hp2 => ?_⟩⟩⟩
      have gg : Gq T H' (upd Hb p (.tup [.str "great", .int 2520, .bl true])) := ((⟨ea, ta⟩ : Gq T H' Ha).trans gb).new hp2
      have rp : Rep K (upd Hb p (.tup [.str "great", .int 2520, .bl true])) (.ref p) dG := rep_tnew hp2 (.cons (.str _) (.cons (.int _) (.cons (.bl _) .nil)))
      have h1' := gg.ext l1 _ h1 fun ps z => by cases z
      have hpc := gg.ext pc _ hp fun ps z => by cases z
      refine ⟨l1, zs, .ref p, rfl, rfl, h1', by show zs.length < sizeLine; rw [sizeLine_eq, zl]; show 3 + i < _; omega, ?_⟩
      refine ⟨_, zs ++ [.ref p], (g.trans gg).wrote kl h1', by rw [upd_ne npl]; exact hpc, upd_same, ?_, rfl⟩
      rw [List.replicate_succ', ← List.append_assoc]
      exact rep_wrLA h1' ((rz.ext gg.ext).append (.cons rp .nil)) (noLA_all (noL_got i))
    rintro σ H8 ⟨s5, zs, g8, _, h8, rz8, rfl⟩
    have zl := rz8.length
    have e7 : ([dI, .int 2520, .bool true] ++ List.replicate ([V.ref f1, .ref f2, .ref f3]).length dG).length = 6 := rfl
    rw [e7] at zl
    refine ⟨_, rfl, .inl ⟨rfl, _, SqL.of h8⟩, g8.tb, fun Ha ea ta => ⟨_, rfl, .ref q10, bGreat, 40, rfl, by decide, bG ((gX7.trans g8).trans ⟨ea, ta⟩), ⟨fun _ Hb dd gb hd => ⟨rfl, dd, _, rfl, hd, fun p hp2 => ?_⟩, fun z => absurd z (by omega)⟩⟩⟩
    have gg : Gq T H8 (upd Hb p (.tup [.str "great", .int 2520, .bl true])) := ((⟨ea, ta⟩ : Gq T H8 Ha).trans gb).new hp2
    have rp : Rep K (upd Hb p (.tup [.str "great", .int 2520, .bl true])) (.ref p) dG := rep_tnew hp2 (.cons (.str _) (.cons (.int _) (.cons (.bl _) .nil)))
    have h8' := gg.ext l1 _ h8 fun ps z => by cases z
    refine ⟨l1, zs, .ref p, rfl, rfl, h8', by show zs.length < sizeLine; rw [sizeLine_eq, zl]; decide, ?_⟩
    have rz9 : RepAll K (upd (upd Hb p (.tup [.str "great", .int 2520, .bl true])) l1 (.lst (zs ++ [.ref p]))) (zs ++ [.ref p]) ([dI, .int 2520, .bool true] ++ List.replicate 4 dG) := rep_wrLA h8' ((rz8.ext gg.ext).append (.cons rp .nil)) (by decide +kernel)
    have h9 := upd_same (H := upd Hb p (.tup [.str "great", .int 2520, .bl true])) (a := l1) (o := .lst (zs ++ [.ref p]))
    have tb9 := ((g8.trans gg).wrote (o := .lst (zs ++ [.ref p])) kl h8').tb
    generalize upd (upd Hb p (.tup [.str "great", .int 2520, .bl true])) l1 (.lst (zs ++ [.ref p])) = H9 at rz9 h9 tb9 ⊢
    have zl9 := rz9.length
    have e9 : ([dI, .int 2520, .bool true] ++ List.replicate 4 dG).length = 7 := rfl
    rw [e9] at zl9
    generalize zs ++ [V.ref p] = z9 at rz9 h9 zl9 ⊢
    clear h8' rp gg ea ta gb hd hp2 zl rz8 h8 g8 rW w0 h71 npl kc kl gX7 g67 m4 t7 g7 g6 rva hv vl rv rI eI g5 kp4 g3 e3 t3 tX bL bG rL rG
    -- due
    refine ⟨by show 2 ≤ sizeLine; decide, fun a1 ka1 => ⟨by show 3 ≤ sizeLine; decide, fun a2 ka2 => ⟨by show 3 ≤ sizeLine; decide, fun a3 ka3 => ⟨by show 1 ≤ sizeLine; decide, fun a4 ka4 => ⟨a4, 4, _, rfl, rfl, upd_same, by decide, by decide, by show 1 * 4 ≤ sizeLine; decide, fun a5 ka5 => ?_⟩⟩⟩⟩⟩
    have n2 : (upd (upd (upd (upd (upd H9 a1 (.tup [.str "is", .int 2520])) a2 (.lst [.ref a1, .int 2520, .bl true])) a3 (.tup [.str "great", .int 2520, .bl true])) a4 (.lst [.ref a3])) a5 (.lst (List.replicate (4 : Int).toNat [V.ref a3]).flatten)) a2 = some (.lst [.ref a1, .int 2520, .bl true]) := ext_new ka5 a2 _ (ext_new ka4 a2 _ (ext_new ka3 a2 _ upd_same (fun ps z => by cases z)) (fun ps z => by cases z)) (fun ps z => by cases z)
    refine ⟨a2, a5, _, _, rfl, rfl, n2, upd_same, by show 3 + 4 ≤ sizeLine; decide, fun a6 ka6 => ?_⟩
    have rdI : Rep K _ (.ref a1) dI := ((((((rep_tnew (K := K) ka1 (.cons (.str "is") (.cons (.int 2520) .nil))).ext (ext_new (o := .lst [.ref a1, .int 2520, .bl true]) ka2)).ext (ext_new (o := .tup [.str "great", .int 2520, .bl true]) ka3)).ext (ext_new (o := .lst [.ref a3]) ka4)).ext (ext_new (o := .lst (List.replicate (4 : Int).toNat [V.ref a3]).flatten) ka5)).ext (ext_new (o := .lst ([.ref a1, .int 2520, .bl true] ++ (List.replicate (4 : Int).toNat [V.ref a3]).flatten)) ka6))
    have rdG : Rep K _ (.ref a3) dG := ((((rep_tnew (K := K) ka3 (.cons (.str "great") (.cons (.int 2520) (.cons (.bl true) .nil)))).ext (ext_new (o := .lst [.ref a3]) ka4)).ext (ext_new (o := .lst (List.replicate (4 : Int).toNat [V.ref a3]).flatten) ka5)).ext (ext_new (o := .lst ([.ref a1, .int 2520, .bl true] ++ (List.replicate (4 : Int).toNat [V.ref a3]).flatten)) ka6))
    have rD : RepAll K _ ([.ref a1, .int 2520, .bl true] ++ (List.replicate (4 : Int).toNat [V.ref a3]).flatten) ([dI, .int 2520, .bool true] ++ List.replicate 4 dG) := .cons rdI (.cons (.int _) (.cons (.bl _) (.cons rdG (.cons rdG (.cons rdG (.cons rdG .nil))))))
    have gD : Gq T H9 _ := (((((((Gq.refl tb9).new (o := .tup [.str "is", .int 2520]) ka1).new (o := .lst [.ref a1, .int 2520, .bl true]) ka2).new (o := .tup [.str "great", .int 2520, .bl true]) ka3).new (o := .lst [.ref a3]) ka4).new (o := .lst (List.replicate (4 : Int).toNat [V.ref a3]).flatten) ka5).new (o := .lst ([.ref a1, .int 2520, .bl true] ++ (List.replicate (4 : Int).toNat [V.ref a3]).flatten)) ka6)
    have hD := upd_same (H := (upd (upd (upd (upd (upd H9 a1 (.tup [.str "is", .int 2520])) a2 (.lst [.ref a1, .int 2520, .bl true])) a3 (.tup [.str "great", .int 2520, .bl true])) a4 (.lst [.ref a3])) a5 (.lst (List.replicate (4 : Int).toNat [V.ref a3]).flatten))) (a := a6) (o := .lst ([.ref a1, .int 2520, .bl true] ++ (List.replicate (4 : Int).toNat [V.ref a3]).flatten))
    show tSeq _ _ _ _ ((upd (upd (upd (upd (upd (upd H9 a1 (.tup [.str "is", .int 2520])) a2 (.lst [.ref a1, .int 2520, .bl true])) a3 (.tup [.str "great", .int 2520, .bl true])) a4 (.lst [.ref a3])) a5 (.lst (List.replicate (4 : Int).toNat [V.ref a3]).flatten)) a6 (.lst ([.ref a1, .int 2520, .bl true] ++ (List.replicate (4 : Int).toNat [V.ref a3]).flatten))))
    generalize (upd (upd (upd (upd (upd (upd H9 a1 (.tup [.str "is", .int 2520])) a2 (.lst [.ref a1, .int 2520, .bl true])) a3 (.tup [.str "great", .int 2520, .bl true])) a4 (.lst [.ref a3])) a5 (.lst (List.replicate (4 : Int).toNat [V.ref a3]).flatten)) a6 (.lst ([.ref a1, .int 2520, .bl true] ++ (List.replicate (4 : Int).toNat [V.ref a3]).flatten))) = HD at rdI rdG rD gD hD ⊢
    generalize ([V.ref a1, .int 2520, .bl true] ++ (List.replicate (4 : Int).toNat [V.ref a3]).flatten) = dv at rD hD ⊢
    have hg := gD.ext l1 _ h9 fun ps z => by cases z
    have rg := rz9.ext gD.ext
    have tD := gD.tb
    have dl := rD.length
    rw [e9] at dl
    clear rdI rdG n2 ka1 ka2 ka3 ka4 ka5 ka6 gD tb9 rz9 h9
    -- more
    refine ⟨_, rfl, ?_⟩
    refine ⟨by show 2 ≤ sizeLine; decide, fun b1 kb1 => ⟨by show 2 ≤ sizeLine; decide, fun b2 kb2 => ⟨by show 2 ≤ sizeLine; decide, fun b3 kb3 => ⟨by show 3 ≤ sizeLine; decide, fun b4 kb4 => ?_⟩⟩⟩⟩
    have rT : Rep K _ (.ref b4) (dBs bTwo) := (rep_tnew (K := K) kb4 (.cons (((rep_tnew (K := K) kb1 (.cons (.int 2) (.cons (.int 0) .nil))).ext (ext_new (o := .tup [.int 2, .int 0]) kb2)).ext (ext_new (o := .tup [.int 2, .int 1]) kb3)) (.cons ((rep_tnew (K := K) kb2 (.cons (.int 2) (.cons (.int 0) .nil))).ext (ext_new (o := .tup [.int 2, .int 1]) kb3)) (.cons (rep_tnew (K := K) kb3 (.cons (.int 2) (.cons (.int 1) .nil))) .nil))))
    have gT : Gq T HD _ := (((((Gq.refl tD).new (o := .tup [.int 2, .int 0]) kb1).new (o := .tup [.int 2, .int 0]) kb2).new (o := .tup [.int 2, .int 1]) kb3).new (o := .tup [.ref b1, .ref b2, .ref b3]) kb4)
    refine ⟨.ref b4, bTwo, 2, rfl, by decide, ⟨rT, to1, to2, gT.tb⟩, ⟨fun z => absurd z (by rw [to3]; decide), fun _ m1 HE gE u1 => ?_⟩⟩
    have em1 := u1.eq top_two
    subst em1
    have gDE := gT.trans gE
    clear rT gT gE kb1 kb2 kb3 kb4
    refine ⟨by show 2 ≤ sizeLine; decide, fun c1 kc1 => ⟨by show 2 ≤ sizeLine; decide, fun c2 kc2 => ⟨by show 2 ≤ sizeLine; decide, fun c3 kc3 => ⟨by show 3 ≤ sizeLine; decide, fun c4 kc4 => ?_⟩⟩⟩⟩
    have rT : Rep K _ (.ref c4) (dBs bTwo) := (rep_tnew (K := K) kc4 (.cons (((rep_tnew (K := K) kc1 (.cons (.int 2) (.cons (.int 0) .nil))).ext (ext_new (o := .tup [.int 2, .int 0]) kc2)).ext (ext_new (o := .tup [.int 2, .int 1]) kc3)) (.cons ((rep_tnew (K := K) kc2 (.cons (.int 2) (.cons (.int 0) .nil))).ext (ext_new (o := .tup [.int 2, .int 1]) kc3)) (.cons (rep_tnew (K := K) kc3 (.cons (.int 2) (.cons (.int 1) .nil))) .nil))))
    have gT : Gq T HE _ := (((((Gq.refl gDE.tb).new (o := .tup [.int 2, .int 0]) kc1).new (o := .tup [.int 2, .int 0]) kc2).new (o := .tup [.int 2, .int 1]) kc3).new (o := .tup [.ref c1, .ref c2, .ref c3]) kc4)
    refine ⟨.ref c4, bTwo, 1, rfl, by decide, ⟨rT, to1, to2, gT.tb⟩, ⟨fun z => absurd z (by rw [to3]; decide), fun _ m2 HF gF u2 => ?_⟩⟩
    have em2 := u2.eq top_two
    subst em2
    have gDF := (gDE.trans gT).trans gF
    clear rT gT gF kc1 kc2 kc3 kc4 gDE
    refine ⟨by show 0 ≤ sizeLine; decide, fun e1 ke1 => ?_⟩
    have gDG := gDF.new (o := .tup []) ke1
    refine ⟨.ref e1, [], rfl, ⟨rep_tnew ke1 .nil, no1, no2, gDG.tb⟩, ⟨fun z => absurd z (by rw [no3]; decide), fun _ v HG gG rv => ?_⟩⟩
    have gDH := gDG.trans gG
    refine ⟨by show 0 ≤ sizeLine; decide, fun e2 ke2 => ?_⟩
    have gDI := gDH.new (o := .tup []) ke2
    refine ⟨.ref e2, [], rfl, ⟨rep_tnew ke2 .nil, no1, no2, gDI.tb⟩, ⟨fun z => absurd z (by rw [no3]; decide), fun _ m3 HJ gJ u3 => ?_⟩⟩
    have em3 : m3 = 0 := Nat.le_zero.mp u3.le
    subst em3
    have gDJ := gDI.trans gJ
    have rvJ : Rep K HJ v (.tuple [.tuple []]) := gJ.rep ((ext_new (o := .tup []) ke2 |> fun x => rv.ext x))
    refine ⟨by show 4 ≤ sizeLine; decide, fun l9 kl9 => ?_⟩
    have gDK := gDJ.new (o := .lst [.bl (decide (2 ≤ 2)), .bl (decide (2 ≤ 1)), v, .int (0 : Nat)]) kl9
    refine ⟨l1, l9, _, _, rfl, rfl, gDK.ext l1 _ hg (fun ps z => by cases z), upd_same, by show z9.length + 4 ≤ sizeLine; rw [zl9, sizeLine_eq]; decide, fun l10 k10 => ?_⟩
    have gDL := gDK.new (o := .lst (z9 ++ [.bl (decide (2 ≤ 2)), .bl (decide (2 ≤ 1)), v, .int (0 : Nat)])) k10
    have rL : RepAll K _ (z9 ++ [.bl (decide (2 ≤ 2)), .bl (decide (2 ≤ 1)), v, .int (0 : Nat)]) (([dI, .int 2520, .bool true] ++ List.replicate 4 dG) ++ [.bool true, .bool false, .tuple [.tuple []], .int 0]) :=
      (((rg.ext gDJ.ext).append (.cons (.bl _) (.cons (.bl _) (.cons rvJ (.cons (.int _) .nil))))).ext (ext_new (o := .lst [.bl (decide (2 ≤ 2)), .bl (decide (2 ≤ 1)), v, .int (0 : Nat)]) kl9)).ext (ext_new (o := .lst (z9 ++ [.bl (decide (2 ≤ 2)), .bl (decide (2 ≤ 1)), v, .int (0 : Nat)])) k10)
    have hL := upd_same (H := upd HJ l9 (.lst [.bl (decide (2 ≤ 2)), .bl (decide (2 ≤ 1)), v, .int (0 : Nat)])) (a := l10) (o := .lst (z9 ++ [.bl (decide (2 ≤ 2)), .bl (decide (2 ≤ 1)), v, .int (0 : Nat)]))
    show tSeq _ _ _ _ (upd (upd HJ l9 (.lst [.bl (decide (2 ≤ 2)), .bl (decide (2 ≤ 1)), v, .int (0 : Nat)])) l10 (.lst (z9 ++ [.bl (decide (2 ≤ 2)), .bl (decide (2 ≤ 1)), v, .int (0 : Nat)])))
    generalize upd (upd HJ l9 (.lst [.bl (decide (2 ≤ 2)), .bl (decide (2 ≤ 1)), v, .int (0 : Nat)])) l10 (.lst (z9 ++ [.bl (decide (2 ≤ 2)), .bl (decide (2 ≤ 1)), v, .int (0 : Nat)])) = HL at gDL rL hL ⊢
    generalize (z9 ++ [.bl (decide (2 ≤ 2)), .bl (decide (2 ≤ 1)), v, .int (0 : Nat)]) = zz at rL hL ⊢
    have hDL := gDL.ext a6 _ hD fun ps z => by cases z
    have rDL := rD.ext gDL.ext
    refine ⟨_, rfl, _, rfl, by show 0 ≤ sizeLine; decide, fun x1 kx1 => ⟨by show 1 ≤ sizeLine; decide, fun x2 kx2 => ⟨by show 4 ≤ sizeLine; decide, fun x3 kx3 => ?_⟩⟩⟩
    have gx := (((Gq.refl gDL.tb).new (o := .tup []) kx1).new (o := .tup [.ref x1]) kx2).new (o := .lst [.bl true, .bl false, .ref x2, .int 0]) kx3
    refine ⟨a6, x3, dv, _, rfl, rfl, gx.ext a6 _ hDL (fun ps z => by cases z), upd_same, by show dv.length + 4 ≤ sizeLine; rw [dl, sizeLine_eq]; decide, fun x4 kx4 => ?_⟩
    have gy := gx.new (o := .lst (dv ++ [.bl true, .bl false, .ref x2, .int 0])) kx4
    have rx2 : Rep K (upd (upd HL x1 (.tup [])) x2 (.tup [.ref x1])) (.ref x2) (.tuple [.tuple []]) := rep_tnew kx2 (.cons (rep_tnew kx1 .nil) .nil)
    have rE : RepAll K (upd (upd (upd (upd HL x1 (.tup [])) x2 (.tup [.ref x1])) x3 (.lst [.bl true, .bl false, .ref x2, .int 0])) x4 (.lst (dv ++ [.bl true, .bl false, .ref x2, .int 0]))) (dv ++ [.bl true, .bl false, .ref x2, .int 0]) (([dI, .int 2520, .bool true] ++ List.replicate 4 dG) ++ [.bool true, .bool false, .tuple [.tuple []], .int 0]) :=
      (rDL.ext gy.ext).append (.cons (.bl _) (.cons (.bl _) (.cons ((rx2.ext (ext_new kx3)).ext (ext_new kx4)) (.cons (.int _) .nil))))
    exact ⟨.ref l10, .ref x4, _, 2000, 4, rfl, .lst (SqL.of (gy.ext l10 _ hL fun ps z => by cases z)) (rL.ext gy.ext), .lst (SqL.of upd_same) rE, shw_last, by decide, by decide, q _⟩
end
end K2
set_option Elab.async false
set_option linter.all false
set_option maxRecDepth 100000
set_option maxHeartbeats 4000000
/-! KitZ: the end of a law whose promise asks that no repr is under way. -/
namespace BK
open PySem PySem.Spec PyProof.Rows L2 LamX
/-- what the head leaves: cs, the code objects and their empty tables; the script's list at a -/
structure LawIn (K : PySem.W.Frag) (mg mb : Str → Option Value) (cs : List (Addr × Addr)) (s : Shared) (a : Addr) (vs : List Value) (ns : List Int) : Prop where
  kin : K.In s.heap
  glob : s.heap.Ns mainGlobals mg
  blt : s.heap.Ns builtinsNs mb
  same : ∀ x : Str, x ≠ "__name__" → mb x = bootBuiltins x
  lim : s.heap.NoLimit
  gens : s.gens = #[]
  tab : ∀ p ∈ cs, s.heap.get? p.2 = some { cls := .none, data := .fields #[] }
  notK : ∀ p ∈ cs, K.lookup p.2 = none
  code : ∀ p ∈ cs, PySem.W.CodeHd s.heap p.1 p.2
  main : ∃ (bm : Addr) (ob : Obj), mg "__builtins__" = some (.ref bm) ∧ bm ≠ builtinsNs ∧ s.heap.get? bm = some ob ∧ ob.cls = .type "module" ∧ ob.dict = some builtinsNs ∧ ob.data = .plain
  arg : s.heap.get? a = some { cls := .type "list", data := .seq vs.toArray }
  whole : IntsAre vs ns
  small : ns.length ≤ sizeLine
def script (vs : List Value) (ns : List Int) : HO := .frz { cls := .type "list", data := .seq vs.toArray } (.lst (ns.map V.int))
/-- tracked: the tables, and the script's list unless the written part has it -/
def lawH (K : PySem.W.Frag) (cs : List (Addr × Addr)) (a : Addr) (vs : List Value) (ns : List Int) : Hp := fun b =>
  if b ∈ cs.map (·.2) then some (.tbl #[]) else if b = a then (if (K.lookup a).isSome = true then none else some (script vs ns)) else none
section
variable {K : PySem.W.Frag} {mg mb : Str → Option Value} {cs : List (Addr × Addr)} {s : Shared} {a : Addr} {vs : List Value} {ns : List Int} (L : LawIn K mg mb cs s a vs ns)
theorem lawH_some {b : Addr} {u : HO} (h : lawH K cs a vs ns b = some u) : (b ∈ cs.map (·.2) ∧ u = .tbl #[]) ∨ (b = a ∧ b ∉ cs.map (·.2) ∧ K.lookup a = none ∧ u = script vs ns) := by
  unfold lawH at h
  split at h
  · exact .inl ⟨‹_›, (Option.some.inj h).symm⟩
  · split at h
    · split at h
      · cases h
      · rename_i n1 e n2
        refine .inr ⟨e, n1, ?_, (Option.some.inj h).symm⟩
        cases q : K.lookup a with
        | none => rfl
        | some o => rw [q] at n2; exact absurd rfl n2
    · cases h
theorem lawH_tab {p : Addr × Addr} (hp : p ∈ cs) : lawH K cs a vs ns p.2 = some (.tbl #[]) := if_pos (List.mem_map.mpr ⟨p, hp, rfl⟩)
include L
theorem LawIn.table {b : Addr} (hb : b ∈ cs.map (·.2)) : s.heap.get? b = some { cls := .none, data := .fields #[] } := by
  obtain ⟨p, hp, rfl⟩ := List.mem_map.mp hb
  exact L.tab p hp
theorem LawIn.away : a ∉ cs.map (·.2) := fun z => by
  have e := L.table z
  rw [L.arg] at e
  have d : Data.seq vs.toArray _ = Data.fields #[] := congrArg Obj.data (Option.some.inj e)
  cases d
/-- what is no sequence and no empty table is not tracked -/
theorem LawIn.plain {b : Addr} {o : Obj} (e : s.heap.get? b = some o) (h1 : ∀ us n, o.data ≠ .seq us n) (h2 : o.data ≠ .fields #[]) : lawH K cs a vs ns b = none := by
  cases q : lawH K cs a vs ns b with
  | none => rfl
  | some u =>
    rcases lawH_some q with ⟨hb, _⟩ | ⟨rfl, _⟩
    · rw [L.table hb] at e
      cases e
      exact absurd rfl h2
    · rw [L.arg] at e
      cases e
      exact absurd rfl (h1 _ _)
theorem LawIn.space {b : Addr} {m : Str → Option Value} (h : s.heap.Ns b m) : (hidT s.heap (lawH K cs a vs ns)).Ns b m := by
  obtain ⟨o, es, ep, e, d, r⟩ := h
  refine ⟨o, es, ep, hidT_get e (L.plain e (fun us n z => ?_) fun z => ?_), d, r⟩ <;> (rw [d] at z; cases z)
theorem LawIn.hidK : K.In (hidT s.heap (lawH K cs a vs ns)) := fun b o e => by
  refine hidT_get (L.kin b o e) ?_
  cases q : lawH K cs a vs ns b with
  | none => rfl
  | some u =>
    rcases lawH_some q with ⟨hb, _⟩ | ⟨rfl, _, n, _⟩
    · obtain ⟨p, hp, rfl⟩ := List.mem_map.mp hb
      rw [L.notK p hp] at e
      cases e
    · rw [n] at e
      cases e
theorem LawIn.mod : L2.Mod K mg (hidT s.heap (lawH K cs a vs ns)) := by
  obtain ⟨mc, h1, h2⟩ := L.lim
  exact ⟨L.hidK, L.space L.glob, ⟨mb, L.space L.blt, L.same⟩, mc, L.space h1, h2⟩
theorem LawIn.tabB {p : Addr × Addr} (hp : p ∈ cs) : TabB (hidT s.heap (lawH K cs a vs ns)) mg p.1 p.2 := by
  have tp := L.tab p hp
  obtain ⟨og, eg, epg, g1, g2, _⟩ := L.glob
  constructor
  · obtain ⟨o, us, file, tf, flags, tg, inF, text, tt, e1, r1, r2, r3, r⟩ := L.code p hp
    refine ⟨o, us, file, tf, flags, tg, inF, text, tt, hidT_get e1 (L.plain e1 (fun us n z => ?_) fun z => ?_), r1, r2, r3, r⟩
    · rw [r2] at z
      cases z
    · rw [r2] at z
      cases z
      simp at r3
  · obtain ⟨bm, ob, b1, b2, b3, b4, b5, b6⟩ := L.main
    refine ⟨bm, ob, b1, b2, fun z => ?_, fun z => ?_, hidT_get b3 (L.plain b3 (fun us n z => ?_) fun z => ?_), b4, b5, b6⟩
    · rw [z, g1] at b3
      cases b3
      rw [g2] at b6
      cases b6
    · rw [z, tp] at b3
      cases b3
      cases b6
    · rw [b6] at z
      cases z
    · rw [b6] at z
      cases z
  · intro z
    rw [z, tp] at g1
    cases g1
    cases g2
theorem LawIn.hok {P : Program} {w : World} : HOk P w (lawH K cs a vs ns) s.heap := fun b u h => by
  rcases lawH_some h with ⟨hb, rfl⟩ | ⟨rfl, _, _, rfl⟩
  · exact L.table hb
  · exact ⟨L.arg, by rw [List.length_map]; exact L.small, vs, _, vals_ints L.whole, L.arg⟩
theorem LawIn.sql : SqL K (lawH K cs a vs ns) a (ns.map V.int) := by
  have rv := vals_ints L.whole
  cases q : K.lookup a with
  | some o =>
    have e := L.kin a o q
    rw [L.arg] at e
    cases e
    exact .inr ⟨_, vs.toArray, _, q, rfl, rfl, rfl, by rw [List.size_toArray, L.whole.length]; exact L.small, by simpa using rv⟩
  | none =>
    refine .inl (.inr ⟨{ cls := .type "list", data := .seq vs.toArray }, ?_⟩)
    show (if a ∈ cs.map (·.2) then _ else _) = _
    rw [if_neg L.away, if_pos rfl, q]
    rfl
theorem LawIn.env {P : Program} {w : World} : Env0 P w K mg (hidT s.heap (lawH K cs a vs ns)) callerA [] s (lawH K cs a vs ns) where
  frames := rfl
  mod := L.mod
  bs := fun b o e => of_hidT e
  bsz := Nat.le_of_eq (hidT_size _ _)
  funs := trivial
  frf := fun b hb => absurd (show b ∈ ([] : List Addr) from hb) (by simp)
  hok := L.hok
  bare := .of_eq L.gens
/-- what stood stands, but for the tables, which may have grown -/
theorem LawIn.old {P : Program} {w : World} {s' : Shared} {H' : Hp} (un : Un (frs []) [] (lawH K cs a vs ns) H' s.heap s'.heap) (ok : HOk P w H' s'.heap) : OldK s.heap s'.heap := by
  have rest : ∀ b o, b ∉ cs.map (·.2) → s.heap.get? b = some o → s'.heap.get? b = some o := fun b o nb e => by
    cases q : lawH K cs a vs ns b with
    | none => exact un.keep b o e q (fun z => by cases (show b ∈ ([] : List Addr) from z)) (by simp)
    | some u =>
      rcases lawH_some q with ⟨hb, _⟩ | ⟨rfl, _, _, rfl⟩
      · exact absurd hb nb
      · obtain ⟨e1, _⟩ := L.hok (P := P) (w := w) b _ q
        obtain ⟨e2, _⟩ := ok b _ (un.frzs b _ _ q)
        rw [e] at e1
        cases e1
        exact e2
  have more : ∀ p ∈ cs, ∃ xs : Array Value, s'.heap.get? p.2 = some { cls := .none, data := .fields xs } := fun p hp => by
    obtain ⟨m, z⟩ := un.tbls p.2 #[] (lawH_tab hp)
    exact ⟨_, ok p.2 _ z⟩
  constructor
  · intro b o e
    by_cases hb : b ∈ cs.map (·.2)
    · obtain ⟨p, hp, rfl⟩ := List.mem_map.mp hb
      obtain ⟨xs, hx⟩ := more p hp
      rw [L.tab p hp] at e
      cases e
      exact .inr (.inl ⟨((L.code p hp).tab (L.tab p hp)).isCodeTable, rfl, #[], xs, rfl, by rw [Array.empty_append]; exact hx⟩)
    · exact .inl (rest b o hb e)
  · intro b o e
    by_cases hb : b ∈ cs.map (·.2)
    · obtain ⟨p, hp, rfl⟩ := List.mem_map.mp hb
      obtain ⟨xs, hx⟩ := more p hp
      exact ⟨_, hx⟩
    · exact ⟨o, rest b o hb e⟩
theorem LawIn.run {P : Program} {w : World} {k : Nat} {fa : Addr} {fd : FuncData} {x : Str} {sp : Sp} (hr : Room k callerA) (hb : ∀ (s : Shared) (u : Value), BindsTo s fd ⟨[u], []⟩ [(x, u)])
    (F : ∀ base : Heap, L2.Mod K mg base → (∀ p ∈ cs, TabB base mg p.1 p.2) → FnG P w K mg base k fa fd [x] sp) (hsp : ∀ H : Hp, (∀ p ∈ cs, H p.2 = some (.tbl #[])) → SqL K H a (ns.map V.int) → sp [.ref a] H (fun v _ => v = .bl true) E0) :
    codeAny (model P w) callerA (.call (.ref fa) ⟨[.ref a], []⟩) (fun r s' => r = .ok (.ret (.bool true)) ∧ OldK s.heap s'.heap ∧ s'.os = s.os ∧ AllBare s'.gens) s := by
  apply codeAny_mono ((F _ L.mod fun p hp => L.tabB hp).run callerA [] s (lawH K cs a vs ns) ⟨[.ref a], []⟩ [.ref a] [.ref a] _ _ rfl hr L.env (hb s (.ref a)) (.cons rfl .nil) (hsp _ (fun p hp => lawH_tab hp) L.sql))
  intro r s' h
  match r, h with
  | .error _, h => exact (show False from h).elim
  | .ok .next, h => exact (show False from h).elim
  | .ok .brk, h => exact (show False from h).elim
  | .ok .cont, h => exact (show False from h).elim
  | .ok (.ret u), h =>
    obtain ⟨v, H', os, bare, un, ok, rv, q⟩ := h
    obtain rfl : v = .bl true := q
    obtain rfl : u = Value.bool true := rv
    exact ⟨rfl, L.old un ok, os, bare⟩
end
/-- what must be shown of a law's def at the head's heap -/
structure LawOn (l : PySem.W.OpenLaw) (w : World) (K : PySem.W.Frag) (k : Nat) (x : Str) (mg : Str → Option Value) (fa : Addr) (h : Heap) : Prop where
  ex : ∃ (fd : FuncData) (cs : List (Addr × Addr)) (sp : Sp), (∀ p ∈ cs, h.get? p.2 = some { cls := .none, data := .fields #[] }) ∧ (∀ p ∈ cs, K.lookup p.2 = none) ∧ (∀ p ∈ cs, PySem.W.CodeHd h p.1 p.2) ∧ (∀ (s : Shared) (u : Value), BindsTo s fd ⟨[u], []⟩ [(x, u)]) ∧
    (∀ (H : Hp) (a : Addr) (ns : List Int), ns.length ≤ 63 → (∀ p ∈ cs, H p.2 = some (.tbl #[])) → SqL K H a (ns.map V.int) → sp [.ref a] H (fun v _ => v = .bl true) E0) ∧
    ∀ base : Heap, L2.Mod K mg base → (∀ p ∈ cs, TabB base mg p.1 p.2) → FnG l.prog w K mg base k fa fd [x] sp
theorem walk_on {l : PySem.W.OpenLaw} {k : Nat} {q : Program} {loose : List Str} {XP : (Str → Option Value) → Heap → Prop} {YP : World → Heap → Prop} {d : DefRec} {K : Params → PySem.W.Frag} {x : Str}
    (hn : l.most = some 63) (hdf : d.params.defaults = []) (hr : Room k callerA) (hY : ∀ (w : World) (h : Heap), YP w h → (K w.params).In h)
    (F : ∀ (w : World) (mg : Str → Option Value) (fa : Addr) (h : Heap), YP w h → XP mg h → (K w.params).In h → h.Ns mainGlobals mg → (∀ (x : Str) (r : DefRec) (c P : Addr), (recsOf q).find? (fun e => e.name == x) = some r → PySem.W.tabIn (K w.params) x = some (c, P) → PySem.W.CodeHd h c P ∧ h.get? P = some (PySem.W.tabObj #[])) → mg d.name = some (.ref fa) → LawOn l w (K w.params) k x mg fa h) :
    PySem.W.WalkO q loose XP YP l.row.toRowW d [] (fun f vs => PySem.call f vs) := by
  apply Att.attach_callB hn hdf
  intro w s₀ s₁ mg mb fa o pm cd doc a vs ns G Y ho hd hcd hmg hobj hints hlen _ hg
  have KX := hY w _ Y
  obtain ⟨fd, cs, sp, hT, nT, C, hb, hsp, hF⟩ := (F w mg fa _ Y G.X KX G.T.g (fun x r c P hr ht => PySem.W.tab_of G.T KX hr ht) hmg).ex
  have L : LawIn (K w.params) mg mb cs s₁ a vs ns := ⟨KX, G.T.g, G.T.b, G.T.builtins, G.T.nolimit, hg, hT, nT, C, G.T.bmain, hobj, hints, by rw [sizeLine_eq]; omega⟩
  exact L.run hr hb hF fun H hH hS => hsp H a ns hlen hH hS
end BK
set_option Elab.async false
set_option linter.all false
set_option maxRecDepth 100000
set_option maxHeartbeats 4000000
/-! EndS: from what the top leaves to the law's promise. -/
namespace K2
open PySem PySem.Spec PyProof.Rows L2 BK LamX
theorem rel_at : ∀ {zs : List V} {ws : List Value}, Vals zs ws → ∀ i : Nat, RelV (zs.getD i .non) (ws.getD i .none)
  | _, _, .nil, _ => rfl
  | _, _, .cons r _, 0 => r
  | _, _, .cons _ rr, i + 1 => rel_at rr i
/-- how the parameters of a def of the text bind -/
def BindsAll (st : Stmt) (x : Str) (ps : List Str) : Prop := ∀ (kV doc pm : Value) (an : Option Addr) (cdv ct : Value) (us : List Value), us.length = ps.length → bindArgs (PySem.W.fnOf x x (defArgs st) (defBody st) (defScope st) .none kV doc pm an cdv ct) ⟨us, []⟩ = pure (ps.zip us)
section
variable {K : PySem.W.Frag} {h : Heap} {mg : Str → Option Value}
theorem at_of {x : Str} {st : Stmt} {ps : List Str} {f : Addr} {oc kV dc pm cd ct : Value} {od an : Option Addr} {sl : Array (Option Value)} (X : K.In h) (G : h.Ns mainGlobals mg) (a : PySem.W.nsIn K mainGlobals x = some (some (.ref f)))
    (l : K.lookup f = some ⟨oc, od, .func (PySem.W.fnOf x x (defArgs st) (defBody st) (defScope st) .none kV dc pm an cd ct), sl⟩) (c : PySem.W.codeIn K cd x = true) (k : PySem.W.keepIn K (.ref f) = true) (b : BindsAll st x ps) : At K mg x st ps := by
  have F := fun_mk (st := st) l c k
  exact ⟨f, _, F, PySem.W.mg_of X G a, F.binds b⟩
/-- with its code object at c -/
structure AtD (K : PySem.W.Frag) (mg : Str → Option Value) (x : Str) (st : Stmt) (ps : List Str) (c : Addr) : Prop where
  ex : ∃ (f : Addr) (oc : Value) (od : Option Addr) (kV doc pm : Value) (an : Option Addr) (ct : Value) (osl : Array (Option Value)),
    K.lookup f = some ⟨oc, od, .func (PySem.W.fnOf x x (defArgs st) (defBody st) (defScope st) .none kV doc pm an (.ref c) ct), osl⟩ ∧ PySem.W.codeIn K (.ref c) x = true ∧ PySem.W.keepIn K (.ref f) = true ∧ mg x = some (.ref f) ∧
    Binds K (PySem.W.fnOf x x (defArgs st) (defBody st) (defScope st) .none kV doc pm an (.ref c) ct) ps []
theorem atD_of {x : Str} {st : Stmt} {ps : List Str} {f c : Addr} {oc kV dc pm ct : Value} {od an : Option Addr} {sl : Array (Option Value)} (X : K.In h) (G : h.Ns mainGlobals mg) (a : PySem.W.nsIn K mainGlobals x = some (some (.ref f)))
    (l : K.lookup f = some ⟨oc, od, .func (PySem.W.fnOf x x (defArgs st) (defBody st) (defScope st) .none kV dc pm an (.ref c) ct), sl⟩) (cc : PySem.W.codeIn K (.ref c) x = true) (k : PySem.W.keepIn K (.ref f) = true) (b : BindsAll st x ps) : AtD K mg x st ps c := by
  have F := fun_mk (st := st) l cc k
  exact ⟨f, oc, od, kV, dc, pm, an, ct, sl, l, cc, k, PySem.W.mg_of X G a, F.binds b⟩
theorem AtD.on {x : Str} {st : Stmt} {ps : List Str} {c P : Addr} {base : Heap} (a : AtD K mg x st ps c) (t : LamX.TabB base mg c P) : AtC K mg base x st ps P := by
  obtain ⟨f, oc, od, kV, dc, pm, an, ct, sl, l, cc, k, m, b⟩ := a.ex
  exact ⟨f, oc, od, kV, dc, pm, an, c, ct, sl, l, cc, k, m, b, t⟩
end
theorem AtD.at {K : PySem.W.Frag} {mg : Str → Option Value} {x : Str} {st : Stmt} {ps : List Str} {c : Addr} (a : AtD K mg x st ps c) : At K mg x st ps := by
  obtain ⟨f, oc, od, kV, dc, pm, an, ct, sl, l, cc, k, m, b⟩ := a.ex
  have F := fun_mk (st := st) l cc k
  exact ⟨f, _, F, m, b⟩
theorem uq_nodup : ∀ {T : List (Addr × Str)}, (T.map (·.1)).Nodup → Uq T
  | [], _ => fun p hp => by cases hp
  | a :: T, h => fun p hp p' hp' e => by
    rw [List.map_cons, List.nodup_cons] at h
    rcases List.mem_cons.mp hp with z | k
    · rcases List.mem_cons.mp hp' with z' | k'
      · rw [z, z']
      · subst z
        exact absurd (List.mem_map.mpr ⟨p', k', e.symm⟩) h.1
    · rcases List.mem_cons.mp hp' with z' | k'
      · subst z'
        exact absurd (List.mem_map.mpr ⟨p, k, e⟩) h.1
      · exact uq_nodup h.2 p k p' k' e
section
variable {K : PySem.W.Frag} {h : Heap} {mg : Str → Option Value}
/-- an error class with one field: what the written part says of it -/
structure ErrF (K : PySem.W.Frag) (mg : Str → Option Value) (x f : Str) (st : Stmt) (C : Addr) : Prop where
  oex : OexC K C
  m : mg x = some (.ref C)
  no : PySem.W.findIn K (.ref C) f = some none
  ini : ∃ (fI : Addr) (fd : FuncData), PySem.W.findIn K (.ref C) "__init__" = some (some (.ref fI)) ∧ PySem.W.typeIn K (.ref fI) = some (.type "function") ∧ Fun K "__init__" (x ++ ".__init__") st fI fd ∧ Binds K fd ["self", f] []
theorem errF_of {x f : Str} {st : Stmt} {C fI : Addr} {oc kV dc pm cd ct : Value} {od an : Option Addr} {sl : Array (Option Value)} {nm q N bs bm sn sub ab col dd k0 k1 k2 k3 k5} (X : K.In h) (G : h.Ns mainGlobals mg) (a : PySem.W.nsIn K mainGlobals x = some (some (.ref C)))
    (xL : K.lookup C = some (excClassObj nm q C N bs bm true sn sub ab col dd k0 k1 k2 k3 k5 "ValueError.__new__")) (vb : PySem.HandSPX.refsVE bm = true) (sa : PySem.W.findIn K (.ref C) "__setattr__" = some (some (.builtin "object.__setattr__"))) (ex : PySem.W.subIn K (.ref C) (.type "BaseException") = some true)
    (ty : PySem.W.typeIn K (.ref C) = some (.type "type")) (kC : PySem.W.keepIn K (.ref C) = true) (no : PySem.W.findIn K (.ref C) f = some none) (a1 : PySem.W.findIn K (.ref C) "__init__" = some (some (.ref fI))) (t1 : PySem.W.typeIn K (.ref fI) = some (.type "function"))
    (l : K.lookup fI = some ⟨oc, od, .func (PySem.W.fnOf "__init__" (x ++ ".__init__") (defArgs st) (defBody st) (defScope st) .none kV dc pm an cd ct), sl⟩) (c : PySem.W.codeIn K cd (x ++ ".__init__") = true) (k : PySem.W.keepIn K (.ref fI) = true)
    (b : ∀ (kV doc pm : Value) (an : Option Addr) (cdv ct : Value) (us : List Value), us.length = 2 → bindArgs (PySem.W.fnOf "__init__" (x ++ ".__init__") (defArgs st) (defBody st) (defScope st) .none kV doc pm an cdv ct) ⟨us, []⟩ = pure ((["self", f] : List Str).zip us)) : ErrF K mg x f st C := by
  have F := fun_mk (st := st) l c k
  exact ⟨⟨⟨_, _, _, _, _, _, _, _, _, _, _, _, _, _, _, xL, vb⟩, sa, ex, ty, kC⟩, PySem.W.mg_of X G a, no, fI, _, a1, t1, F, F.binds b⟩
theorem ErrF.val {P : Program} {w : World} {base : Heap} {x f : Str} {st : Stmt} {C : Addr} {p1 p2 p3 p4 : Pos} (e : ErrF K mg x f st C) (hb : defBody st = [.Assign [.Attribute (.Name "self" p1) f p2] (.Name f p3) p4]) (sc : FnScope ["self", f] ["self", f] (defScope st))
    (hv0 : Vis (defScope st) "self") (hv1 : Vis (defScope st) f) (hd : (f == ("__debug__" : Str)) = false) (hcd : (f == ("__classdict__" : Str)) = false) (hsw : ∀ X : Cx, swapsWith (.Name f p3) (some (.Attribute (.Name "self" p1) f p2)) p4.line X.env = pure false) : ErrV P w K mg base x f C := by
  obtain ⟨fI, fd, a1, t1, F, b⟩ := e.ini
  exact ⟨fI, fd, e.oex, a1, t1, ok_err F e.oex e.no hb sc hv0 hv1 hd hcd hsw, b, e.m⟩
end
/-- the defs as the top leaves them -/
structure Top0 (K : PySem.W.Frag) (mg : Str → Option Value) (TG HE c1 : Addr) : Prop where
  integer : At K mg "is_integer" sInteger ["value"]
  within : At K mg "is_within" sWithin ["value", "low", "high"]
  fromI : At K mg "is_from" sFrom ["value", "low"]
  row : At K mg "is_row" sRow ["value", "many"]
  isBeat : At K mg "is_beat" sIsBeat ["value"]
  needBeat : At K mg "need_beat" sNeedBeat ["value"]
  needTuple : At K mg "need_tuple" sNeedTuple ["value"]
  needBeats : At K mg "need_beats" sNeedBeats ["beats"]
  needRooms : At K mg "need_rooms" sNeedRooms ["rooms"]
  weeksOf : At K mg "weeks_of" sWeeksOf ["periods"]
  weeksB : At K mg "weeks_of_beats" sWeeksB ["beats"]
  heldIn : At K mg "held_in" sHeldIn ["beats", "week"]
  heldD : At K mg "held" sHeld ["beats", "week"]
  leave : At K mg "leave_alike" sLeave ["one", "other", "later"]
  meetsD : At K mg "meets" sMeets ["one", "other"]
  roundL : At K mg "round_length" sRoundL ["beats"]
  unr : At K mg "unrolled" sUnrolled ["beats"]
  mostAt : At K mg "most_at_once" sMostAt ["beats"]
  fitsD : At K mg "fits" sFits ["beats", "rooms"]
  mixed : At K mg "_law_mixed" sMixed ["cell", "k"]
  begin : At K mg "_law_begin" sBegin ["script"]
  draw : At K mg "_law_draw" sDraw ["state", "limit"]
  beatsL : At K mg "_law_beats" sBeatsL ["state"]
  lengthL : At K mg "_law_length" sLength ["some"]
  like : At K mg "_law_like" sLike ["got", "due"]
  heard : At K mg "_law_heard" sHeard ["call"]
  right : At K mg "_law_right" sRight ["state", "some"]
  law : AtD K mg "law" sLaw ["script"] c1
  bl : Bl mg
  m40 : ∃ t, mg "MOST_BEATS" = some (.int 40 t)
  m24 : ∃ t, mg "MOST_PERIOD" = some (.int 24 t)
  mR : ∃ t, mg "MOST_ROOMS" = some (.int 40 t)
  mW : ∃ t, mg "MOST_WEEKS" = some (.int 2520 t)
  mGcd : mg "gcd" = some (.builtin "math.gcd")
  mLcm : mg "lcm" = some (.builtin "math.lcm")
  eT : ErrF K mg "TooGreat" "most" (inClass sTooGreat 0) TG
  et : ErrG K mg TG HE
section
variable {K : PySem.W.Frag} {h : Heap} {mg : Str → Option Value}
theorem k69_on {l : PySem.W.OpenLaw} {w : World} {fa TG HE c1 P1 : Addr} (Z : Top0 K mg TG HE c1) (hmg : mg "law" = some (.ref fa)) (nd : [P1].Nodup)
    (hT : ∀ p ∈ [(c1, P1)], h.get? p.2 = some { cls := .none, data := .fields #[] }) (nT : ∀ p ∈ [(c1, P1)], K.lookup p.2 = none)
    (C : ∀ p ∈ [(c1, P1)], PySem.W.CodeHd h p.1 p.2) : LawOn l w K 9 "script" mg fa h := by
  let T : List (Addr × Str) := [(P1, qLaw)]
  obtain ⟨f, fd, Fn, m, b⟩ := Z.law.at.ex
  have ef : f = fa := by
    rw [m] at hmg
    cases hmg
    rfl
  subst ef
  refine ⟨fd, [(c1, P1)], spLaw K T, hT, nT, C, fun s u => ?_, fun H a ns ln tb sq => ?_, fun base MD TB => ?_⟩
  · obtain ⟨oc, od, kV, doc, pm, an, cdv, ct, osl, rfl, _, _⟩ := Fn.ex
    exact BindsTo.of_eq rfl
  · have tt : Tabs T H := fun p hp => by
      refine TabS.nil ?_
      simp only [T, List.mem_cons, List.not_mem_nil, or_false] at hp
      rcases hp with rfl
      exact tb (c1, P1) (by simp)
    exact ⟨a, ns, rfl, sq, ln, tt, fun _ => rfl⟩
  · have uq : ∀ p ∈ T, p.1 = P1 → p.2 = qLaw := fun p hp _ => by
      simp only [T, List.mem_cons, List.not_mem_nil, or_false] at hp
      rw [hp]
    have eG : ErrV l.prog w K mg base "TooGreat" "most" TG := Z.eT.val rfl ⟨rfl, rfl, rfl, by decide +kernel, rfl, by decide +kernel, by decide +kernel⟩ (.inl (by rfl)) (.inl (by rfl)) (by decide) (by decide) (fun _ => by rfl)
    have I := def_integer (P := l.prog) (w := w) (base := base) Z.bl Z.integer
    have W := def_within I Z.within
    have Fr := def_from I Z.fromI
    have R := def_row (P := l.prog) (w := w) (base := base) Z.bl Z.row
    have Be := def_beat Z.m24 W R Z.isBeat
    have Nb := def_needBeat Be Z.needBeat
    have Nt := def_needT (P := l.prog) (w := w) (base := base) Z.bl Z.m40 Z.needTuple
    have Ns := def_needBs (T := T) Z.bl Nt Be Z.needBeats
    have Hi := def_heldIn (P := l.prog) (w := w) (base := base) (T := T) Z.bl Z.heldIn
    have Hd := def_held Ns Fr Hi Z.heldD
    have Lv := def_leave (P := l.prog) (w := w) (base := base) Z.mGcd Z.leave
    have Me := def_meets Nb Lv Z.meetsD
    have Nr := def_needR Z.mR W Z.needRooms
    have Wk := def_weeks (T := T) eG Z.mLcm Z.mW Z.weeksOf
    have Wb := def_weeksB Wk Z.weeksB
    have Rl := def_roundL Ns Wb Z.roundL
    have Un := def_unr Z.bl Ns Wb Hi Z.unr
    have Mo := def_most Z.bl Ns Wb Hi Z.mostAt
    have Fi := def_fits Ns Nr Mo Z.fitsD
    have Mx := def_mixed (P := l.prog) (w := w) (base := base) Z.bl Z.mixed
    have Dr := def_draw Z.bl Mx Z.draw
    have L : Prg l.prog w K mg base T TG :=
      { bl := Z.bl
        draw := Dr
        length := def_length Z.lengthL
        like := def_like Z.bl Z.like
        held := Hd
        meets := Me
        roundL := Rl
        unr := Un
        most := Mo
        fits := Fi }
    have Pz : Pk l.prog w K mg base T TG HE :=
      { begin := def_begin Z.bl Z.begin
        beats := def_beatsL Z.bl Dr Z.beatsL
        right := def_right L Z.right
        et := Z.et
        heard := Z.heard
        kFits := .of Fi Z.fitsD (fun r => r) fun _ _ _ _ _ _ ws hl => match ws, hl with | [_, _], _ => rfl }
    have La := def_law L Pz (Z.law.on (TB (c1, P1) (by simp))) (by simp [T]) uq
    obtain ⟨f', fd', F', m', _, _, oc', od', osl', lk'⟩ := La.ex
    rw [m] at m'
    cases m'
    obtain ⟨oc, od, kV, doc, pm, an, cdv, ct, osl, rfl, lk, _⟩ := Fn.ex
    rw [lk] at lk'
    cases lk'
    exact F'
end
end K2
set_option Elab.async false
set_option linter.all false
set_option maxRecDepth 100000
open PySem PySem.W PyProof.Rows in
set_option maxRecDepth 100000 in
set_option maxHeartbeats 0 in
theorem PySem.Challenge.cw_besthours_k69_whole_rounds_of_weeks_holds : PySem.Challenge.rw_besthours_k69_whole_rounds_of_weeks.Holds := by
  w_on; o_law; k_head; (case hw => w_witness2)
  k_fill
  refine BK.walk_on (l := PySem.Challenge.rw_besthours_k69_whole_rounds_of_weeks) (k := 9) (x := "script") rfl rfl ⟨rfl, by decide, by decide⟩ (fun w h Y => PySem.W.km_in_of Y) ?F
  case F =>
    intro w mg fa h Y XP KX G tabs hmg
    have Tt := PySem.W.km_tabs_of Y
    refine' K2.k69_on (P1 := 289) ?Z hmg (by decide) ?hT ?nT ?C
    case Z =>
      refine' { integer := ?integer
                within := ?within
                fromI := ?fromI
                row := ?row
                isBeat := ?isBeat
                needBeat := ?needBeat
                needTuple := ?needTuple
                needBeats := ?needBeats
                needRooms := ?needRooms
                weeksOf := ?weeksOf
                weeksB := ?weeksB
                heldIn := ?heldIn
                heldD := ?heldD
                leave := ?leave
                meetsD := ?meetsD
                roundL := ?roundL
                unr := ?unr
                mostAt := ?mostAt
                fitsD := ?fitsD
                mixed := ?mixed
                begin := ?begin
                draw := ?draw
                beatsL := ?beatsL
                lengthL := ?lengthL
                like := ?like
                heard := ?heard
                right := ?right
                law := ?law
                bl := ?bl
                m40 := ?m40
                m24 := ?m24
                mR := ?mR
                mW := ?mW
                mGcd := ?mGcd
                mLcm := ?mLcm
                eT := ?eT
                et := ?et }
      case integer =>
        refine' K2.at_of KX G ?a ?l ?c ?k ?b
        (case a => k_is); (case l => k_is); (case c => k_is); (case k => k_is)
        (case b => exact fun _ _ _ _ _ _ us hl => match us, hl with | [_], _ => rfl)
      case within =>
        refine' K2.at_of KX G ?a ?l ?c ?k ?b
        (case a => k_is); (case l => k_is); (case c => k_is); (case k => k_is)
        (case b => exact fun _ _ _ _ _ _ us hl => match us, hl with | [_, _, _], _ => rfl)
      case fromI =>
        refine' K2.at_of KX G ?a ?l ?c ?k ?b
        (case a => k_is); (case l => k_is); (case c => k_is); (case k => k_is)
        (case b => exact fun _ _ _ _ _ _ us hl => match us, hl with | [_, _], _ => rfl)
      case row =>
        refine' K2.at_of KX G ?a ?l ?c ?k ?b
        (case a => k_is); (case l => k_is); (case c => k_is); (case k => k_is)
        (case b => exact fun _ _ _ _ _ _ us hl => match us, hl with | [_, _], _ => rfl)
      case isBeat =>
        refine' K2.at_of KX G ?a ?l ?c ?k ?b
        (case a => k_is); (case l => k_is); (case c => k_is); (case k => k_is)
        (case b => exact fun _ _ _ _ _ _ us hl => match us, hl with | [_], _ => rfl)
      case needBeat =>
        refine' K2.at_of KX G ?a ?l ?c ?k ?b
        (case a => k_is); (case l => k_is); (case c => k_is); (case k => k_is)
        (case b => exact fun _ _ _ _ _ _ us hl => match us, hl with | [_], _ => rfl)
      case needTuple =>
        refine' K2.at_of KX G ?a ?l ?c ?k ?b
        (case a => k_is); (case l => k_is); (case c => k_is); (case k => k_is)
        (case b => exact fun _ _ _ _ _ _ us hl => match us, hl with | [_], _ => rfl)
      case needBeats =>
        refine' K2.at_of KX G ?a ?l ?c ?k ?b
        (case a => k_is); (case l => k_is); (case c => k_is); (case k => k_is)
        (case b => exact fun _ _ _ _ _ _ us hl => match us, hl with | [_], _ => rfl)
      case needRooms =>
        refine' K2.at_of KX G ?a ?l ?c ?k ?b
        (case a => k_is); (case l => k_is); (case c => k_is); (case k => k_is)
        (case b => exact fun _ _ _ _ _ _ us hl => match us, hl with | [_], _ => rfl)
      case weeksOf =>
        refine' K2.at_of KX G ?a ?l ?c ?k ?b
        (case a => k_is); (case l => k_is); (case c => k_is); (case k => k_is)
        (case b => exact fun _ _ _ _ _ _ us hl => match us, hl with | [_], _ => rfl)
      case weeksB =>
        refine' K2.at_of KX G ?a ?l ?c ?k ?b
        (case a => k_is); (case l => k_is); (case c => k_is); (case k => k_is)
        (case b => exact fun _ _ _ _ _ _ us hl => match us, hl with | [_], _ => rfl)
      case heldIn =>
        refine' K2.at_of KX G ?a ?l ?c ?k ?b
        (case a => k_is); (case l => k_is); (case c => k_is); (case k => k_is)
        (case b => exact fun _ _ _ _ _ _ us hl => match us, hl with | [_, _], _ => rfl)
      case heldD =>
        refine' K2.at_of KX G ?a ?l ?c ?k ?b
        (case a => k_is); (case l => k_is); (case c => k_is); (case k => k_is)
        (case b => exact fun _ _ _ _ _ _ us hl => match us, hl with | [_, _], _ => rfl)
      case leave =>
        refine' K2.at_of KX G ?a ?l ?c ?k ?b
        (case a => k_is); (case l => k_is); (case c => k_is); (case k => k_is)
        (case b => exact fun _ _ _ _ _ _ us hl => match us, hl with | [_, _, _], _ => rfl)
      case meetsD =>
        refine' K2.at_of KX G ?a ?l ?c ?k ?b
        (case a => k_is); (case l => k_is); (case c => k_is); (case k => k_is)
        (case b => exact fun _ _ _ _ _ _ us hl => match us, hl with | [_, _], _ => rfl)
      case roundL =>
        refine' K2.at_of KX G ?a ?l ?c ?k ?b
        (case a => k_is); (case l => k_is); (case c => k_is); (case k => k_is)
        (case b => exact fun _ _ _ _ _ _ us hl => match us, hl with | [_], _ => rfl)
      case unr =>
        refine' K2.at_of KX G ?a ?l ?c ?k ?b
        (case a => k_is); (case l => k_is); (case c => k_is); (case k => k_is)
        (case b => exact fun _ _ _ _ _ _ us hl => match us, hl with | [_], _ => rfl)
      case mostAt =>
        refine' K2.at_of KX G ?a ?l ?c ?k ?b
        (case a => k_is); (case l => k_is); (case c => k_is); (case k => k_is)
        (case b => exact fun _ _ _ _ _ _ us hl => match us, hl with | [_], _ => rfl)
      case fitsD =>
        refine' K2.at_of KX G ?a ?l ?c ?k ?b
        (case a => k_is); (case l => k_is); (case c => k_is); (case k => k_is)
        (case b => exact fun _ _ _ _ _ _ us hl => match us, hl with | [_, _], _ => rfl)
      case mixed =>
        refine' K2.at_of KX G ?a ?l ?c ?k ?b
        (case a => k_is); (case l => k_is); (case c => k_is); (case k => k_is)
        (case b => exact fun _ _ _ _ _ _ us hl => match us, hl with | [_, _], _ => rfl)
      case begin =>
        refine' K2.at_of KX G ?a ?l ?c ?k ?b
        (case a => k_is); (case l => k_is); (case c => k_is); (case k => k_is)
        (case b => exact fun _ _ _ _ _ _ us hl => match us, hl with | [_], _ => rfl)
      case draw =>
        refine' K2.at_of KX G ?a ?l ?c ?k ?b
        (case a => k_is); (case l => k_is); (case c => k_is); (case k => k_is)
        (case b => exact fun _ _ _ _ _ _ us hl => match us, hl with | [_, _], _ => rfl)
      case beatsL =>
        refine' K2.at_of KX G ?a ?l ?c ?k ?b
        (case a => k_is); (case l => k_is); (case c => k_is); (case k => k_is)
        (case b => exact fun _ _ _ _ _ _ us hl => match us, hl with | [_], _ => rfl)
      case lengthL =>
        refine' K2.at_of KX G ?a ?l ?c ?k ?b
        (case a => k_is); (case l => k_is); (case c => k_is); (case k => k_is)
        (case b => exact fun _ _ _ _ _ _ us hl => match us, hl with | [_], _ => rfl)
      case like =>
        refine' K2.at_of KX G ?a ?l ?c ?k ?b
        (case a => k_is); (case l => k_is); (case c => k_is); (case k => k_is)
        (case b => exact fun _ _ _ _ _ _ us hl => match us, hl with | [_, _], _ => rfl)
      case heard =>
        refine' K2.at_of KX G ?a ?l ?c ?k ?b
        (case a => k_is); (case l => k_is); (case c => k_is); (case k => k_is)
        (case b => exact fun _ _ _ _ _ _ us hl => match us, hl with | [_], _ => rfl)
      case right =>
        refine' K2.at_of KX G ?a ?l ?c ?k ?b
        (case a => k_is); (case l => k_is); (case c => k_is); (case k => k_is)
        (case b => exact fun _ _ _ _ _ _ us hl => match us, hl with | [_, _], _ => rfl)
      case law =>
        refine' K2.atD_of KX G ?a ?l ?c ?k ?b
        (case a => k_is); (case l => k_is); (case c => k_is); (case k => k_is)
        (case b => exact fun _ _ _ _ _ _ us hl => match us, hl with | [_], _ => rfl)
      case bl =>
        refine' ⟨PySem.W.mg_none_of KX G ?_, PySem.W.mg_none_of KX G ?_, PySem.W.mg_none_of KX G ?_, PySem.W.mg_none_of KX G ?_, PySem.W.mg_none_of KX G ?_, PySem.W.mg_none_of KX G ?_, PySem.W.mg_none_of KX G ?_, PySem.W.mg_none_of KX G ?_, PySem.W.mg_none_of KX G ?_, PySem.W.mg_none_of KX G ?_, PySem.W.mg_none_of KX G ?_, PySem.W.mg_none_of KX G ?_, PySem.W.mg_none_of KX G ?_, PySem.W.mg_none_of KX G ?_⟩ <;> k_is
      case m40 => exact ⟨_, PySem.W.mg_of KX G (by k_is)⟩
      case m24 => exact ⟨_, PySem.W.mg_of KX G (by k_is)⟩
      case mR => exact ⟨_, PySem.W.mg_of KX G (by k_is)⟩
      case mW => exact ⟨_, PySem.W.mg_of KX G (by k_is)⟩
      case mGcd => exact PySem.W.mg_of KX G (by k_is)
      case mLcm => exact PySem.W.mg_of KX G (by k_is)
      case eT =>
        refine' K2.errF_of KX G ?a ?xL ?vb ?sa ?ex ?ty ?kC ?no ?a1 ?t1 ?l ?c ?k ?b
        (case a => k_is); (case xL => k_is); (case vb => decide +kernel); (case sa => k_is); (case ex => k_is); (case ty => k_is); (case kC => k_is); (case no => k_is)
        (case a1 => k_is); (case t1 => k_is); (case l => k_is); (case c => k_is); (case k => k_is)
        (case b => exact fun _ _ _ _ _ _ us hl => match us, hl with | [_, _], _ => rfl)
      case et =>
        refine' ⟨PySem.W.mg_of KX G ?_, PySem.W.mg_of KX G ?_, PySem.W.mg_none_of KX G ?_, ?_, ⟨?_, ?_, ?_, ?_, ?_, ?_, ?_, ?_⟩, ⟨?_, ?_, ?_, ?_⟩, ?_, ?_⟩
        all_goals (try k_is)
        all_goals kernel_rfl
    case hT =>
      intro p hp
      simp only [List.mem_cons, List.not_mem_nil, or_false] at hp
      rcases hp with rfl
      exact Tt 289 (by simp)
    case nT =>
      intro p hp
      simp only [List.mem_cons, List.not_mem_nil, or_false] at hp
      rcases hp with rfl
      kernel_rfl
    case C =>
      intro p hp
      simp only [List.mem_cons, List.not_mem_nil, or_false] at hp
      rcases hp with rfl
      exact PySem.W.codeHd_of_K KX (by kernel_rfl)
