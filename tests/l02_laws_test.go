package tests

import (
	"testing"

	"loop.example/g03221/impl"
)

// Short names, so that the laws can be read as such.
type rel = impl.Relation

var (
	join     = impl.JoinRelations
	meet     = impl.MeetRelations
	less     = impl.LessRelation
	compose  = impl.ComposeRelations
	converse = impl.ConverseRelation
	closure  = impl.ClosureRelation
)

func none(r rel) rel { return impl.EmptyRelation(r.Size) }
func self(r rel) rel { return impl.IdentityRelation(r.Size) }
func full(r rel) rel { return everything(r.Size) }
func rest(r rel) rel { return less(full(r), r) }

// An equation says that two relations, made from any three of one Size, are equal.
type equation struct {
	label string
	left  func(r, s, t rel) rel
	right func(r, s, t rel) rel
}

func setLaws() []equation {
	return []equation{
		{"join: order", func(r, s, t rel) rel { return join(r, s) }, func(r, s, t rel) rel { return join(s, r) }},
		{"join: three", func(r, s, t rel) rel { return join(join(r, s), t) }, func(r, s, t rel) rel { return join(r, join(s, t)) }},
		{"join: itself", func(r, s, t rel) rel { return join(r, r) }, func(r, s, t rel) rel { return r }},
		{"join: nothing", func(r, s, t rel) rel { return join(r, none(r)) }, func(r, s, t rel) rel { return r }},
		{"join: everything", func(r, s, t rel) rel { return join(r, full(r)) }, func(r, s, t rel) rel { return full(r) }},
		{"join: the rest", func(r, s, t rel) rel { return join(r, rest(r)) }, func(r, s, t rel) rel { return full(r) }},
		{"join: meet", func(r, s, t rel) rel { return join(r, meet(r, s)) }, func(r, s, t rel) rel { return r }},
		{"join: over meet", func(r, s, t rel) rel { return join(r, meet(s, t)) }, func(r, s, t rel) rel { return meet(join(r, s), join(r, t)) }},
		{"meet: order", func(r, s, t rel) rel { return meet(r, s) }, func(r, s, t rel) rel { return meet(s, r) }},
		{"meet: three", func(r, s, t rel) rel { return meet(meet(r, s), t) }, func(r, s, t rel) rel { return meet(r, meet(s, t)) }},
		{"meet: itself", func(r, s, t rel) rel { return meet(r, r) }, func(r, s, t rel) rel { return r }},
		{"meet: nothing", func(r, s, t rel) rel { return meet(r, none(r)) }, func(r, s, t rel) rel { return none(r) }},
		{"meet: everything", func(r, s, t rel) rel { return meet(r, full(r)) }, func(r, s, t rel) rel { return r }},
		{"meet: the rest", func(r, s, t rel) rel { return meet(r, rest(r)) }, func(r, s, t rel) rel { return none(r) }},
		{"meet: join", func(r, s, t rel) rel { return meet(r, join(r, s)) }, func(r, s, t rel) rel { return r }},
		{"meet: over join", func(r, s, t rel) rel { return meet(r, join(s, t)) }, func(r, s, t rel) rel { return join(meet(r, s), meet(r, t)) }},
		{"less: meet with the rest", func(r, s, t rel) rel { return less(r, s) }, func(r, s, t rel) rel { return meet(r, rest(s)) }},
		{"less: twice", func(r, s, t rel) rel { return less(r, less(r, s)) }, func(r, s, t rel) rel { return meet(r, s) }},
		{"less: a join", func(r, s, t rel) rel { return less(t, join(r, s)) }, func(r, s, t rel) rel { return meet(less(t, r), less(t, s)) }},
		{"less: a meet", func(r, s, t rel) rel { return less(t, meet(r, s)) }, func(r, s, t rel) rel { return join(less(t, r), less(t, s)) }},
		{"less: itself", func(r, s, t rel) rel { return less(r, r) }, func(r, s, t rel) rel { return none(r) }},
		{"less: nothing", func(r, s, t rel) rel { return less(r, none(r)) }, func(r, s, t rel) rel { return r }},
		{"less: parts", func(r, s, t rel) rel { return join(less(r, s), meet(r, s)) }, func(r, s, t rel) rel { return r }},
	}
}

func stepLaws() []equation {
	return []equation{
		{"compose: three", func(r, s, t rel) rel { return compose(compose(r, s), t) }, func(r, s, t rel) rel { return compose(r, compose(s, t)) }},
		{"compose: identity behind", func(r, s, t rel) rel { return compose(r, self(r)) }, func(r, s, t rel) rel { return r }},
		{"compose: identity before", func(r, s, t rel) rel { return compose(self(r), r) }, func(r, s, t rel) rel { return r }},
		{"compose: nothing behind", func(r, s, t rel) rel { return compose(r, none(r)) }, func(r, s, t rel) rel { return none(r) }},
		{"compose: nothing before", func(r, s, t rel) rel { return compose(none(r), r) }, func(r, s, t rel) rel { return none(r) }},
		{"compose: join behind", func(r, s, t rel) rel { return compose(r, join(s, t)) }, func(r, s, t rel) rel { return join(compose(r, s), compose(r, t)) }},
		{"compose: join before", func(r, s, t rel) rel { return compose(join(r, s), t) }, func(r, s, t rel) rel { return join(compose(r, t), compose(s, t)) }},
		{"converse: twice", func(r, s, t rel) rel { return converse(converse(r)) }, func(r, s, t rel) rel { return r }},
		{"converse: identity", func(r, s, t rel) rel { return converse(self(r)) }, func(r, s, t rel) rel { return self(r) }},
		{"converse: nothing", func(r, s, t rel) rel { return converse(none(r)) }, func(r, s, t rel) rel { return none(r) }},
		{"converse: join", func(r, s, t rel) rel { return converse(join(r, s)) }, func(r, s, t rel) rel { return join(converse(r), converse(s)) }},
		{"converse: meet", func(r, s, t rel) rel { return converse(meet(r, s)) }, func(r, s, t rel) rel { return meet(converse(r), converse(s)) }},
		{"converse: less", func(r, s, t rel) rel { return converse(less(r, s)) }, func(r, s, t rel) rel { return less(converse(r), converse(s)) }},
		{"converse: compose", func(r, s, t rel) rel { return converse(compose(r, s)) }, func(r, s, t rel) rel { return compose(converse(s), converse(r)) }},
		{"closure: twice", func(r, s, t rel) rel { return closure(closure(r)) }, func(r, s, t rel) rel { return closure(r) }},
		{"closure: a step first", func(r, s, t rel) rel { return closure(r) }, func(r, s, t rel) rel { return join(r, compose(r, closure(r))) }},
		{"closure: a step last", func(r, s, t rel) rel { return closure(r) }, func(r, s, t rel) rel { return join(r, compose(closure(r), r)) }},
		{"closure: converse", func(r, s, t rel) rel { return closure(converse(r)) }, func(r, s, t rel) rel { return converse(closure(r)) }},
		{"closure: identity", func(r, s, t rel) rel { return closure(self(r)) }, func(r, s, t rel) rel { return self(r) }},
		{"closure: nothing", func(r, s, t rel) rel { return closure(none(r)) }, func(r, s, t rel) rel { return none(r) }},
		{"closure: with identity", func(r, s, t rel) rel { return closure(join(r, self(r))) }, func(r, s, t rel) rel { return join(closure(r), self(r)) }},
	}
}

// withinLaws say that the left relation is within the right one.
func withinLaws() []equation {
	return []equation{
		{"within itself", func(r, s, t rel) rel { return r }, func(r, s, t rel) rel { return r }},
		{"nothing", func(r, s, t rel) rel { return none(r) }, func(r, s, t rel) rel { return r }},
		{"everything", func(r, s, t rel) rel { return r }, func(r, s, t rel) rel { return full(r) }},
		{"join", func(r, s, t rel) rel { return r }, func(r, s, t rel) rel { return join(s, r) }},
		{"meet", func(r, s, t rel) rel { return meet(s, r) }, func(r, s, t rel) rel { return r }},
		{"less", func(r, s, t rel) rel { return less(r, s) }, func(r, s, t rel) rel { return r }},
		{"compose: meet", func(r, s, t rel) rel { return compose(r, meet(s, t)) }, func(r, s, t rel) rel { return meet(compose(r, s), compose(r, t)) }},
		{"the way back", func(r, s, t rel) rel { return compose(converse(r), rest(compose(r, s))) }, func(r, s, t rel) rel { return rest(s) }},
		{"modular law", func(r, s, t rel) rel { return meet(compose(r, s), t) }, func(r, s, t rel) rel {
			return compose(meet(r, compose(t, converse(s))), meet(s, compose(converse(r), t)))
		}},
		{"closure contains", func(r, s, t rel) rel { return r }, func(r, s, t rel) rel { return closure(r) }},
		{"closure leads on", func(r, s, t rel) rel { return compose(closure(r), closure(r)) }, func(r, s, t rel) rel { return closure(r) }},
		{"closure grows", func(r, s, t rel) rel { return closure(r) }, func(r, s, t rel) rel { return closure(join(s, r)) }},
		{"closure: meet", func(r, s, t rel) rel { return closure(meet(r, s)) }, func(r, s, t rel) rel { return meet(closure(r), closure(s)) }},
	}
}

func checkLaws(t *testing.T, r rel, s rel, u rel) {
	t.Helper()
	for _, x := range append(setLaws(), stepLaws()...) {
		left, right := x.left(r, s, u), x.right(r, s, u)
		if !wantRelation(left) || left.Size != r.Size {
			t.Fatalf("%s: %v is no relation of Size %d, for %v, %v, %v", x.label, left, r.Size, r, s, u)
		}
		if !isSame(left, right) || !impl.EqualRelations(left, right) {
			t.Fatalf("%s: %v is not %v, for %v, %v, %v", x.label, left, right, r, s, u)
		}
	}
	for _, x := range withinLaws() {
		left, right := x.left(r, s, u), x.right(r, s, u)
		if !wantRelation(left) || left.Size != r.Size {
			t.Fatalf("%s: %v is no relation of Size %d, for %v, %v, %v", x.label, left, r.Size, r, s, u)
		}
		if !impl.IsWithin(left, right) || !isSame(meet(left, right), left) {
			t.Fatalf("%s: %v is not within %v, for %v, %v, %v", x.label, left, right, r, s, u)
		}
	}
}

// forSmallRelations checks all relations of Size 0, 1 and 2, three at a time.
func forSmallRelations(t *testing.T, check func(t *testing.T, r rel, s rel, u rel)) {
	t.Helper()
	for n := range 3 {
		tables := allTables(n)
		for _, x := range tables {
			for _, y := range tables {
				for _, z := range tables {
					check(t, x.relation(), y.relation(), z.relation())
				}
			}
		}
	}
}

func TestP3Laws(t *testing.T) {
	forSmallRelations(t, checkLaws)
}

func TestP3LawsByChance(t *testing.T) {
	r := newChance(21)
	for range 300 {
		n := chanceSize(r)
		checkLaws(t, chanceTable(r, n).relation(), chanceTable(r, n).relation(), chanceTable(r, n).relation())
	}
}

// checkOrder: being within is an order, and agrees with what is joined, met and left over.
func checkOrder(t *testing.T, r rel, s rel, u rel) {
	t.Helper()
	within := impl.IsWithin(r, s)
	for i, agrees := range []bool{isSame(join(r, s), s), isSame(meet(r, s), r), isSame(less(r, s), none(r)), impl.IsWithin(converse(r), converse(s))} {
		if agrees != within {
			t.Fatalf("way %d of being within differs, for %v and %v", i, r, s)
		}
	}
	if both := within && impl.IsWithin(s, r); both != isSame(r, s) || both != impl.EqualRelations(r, s) {
		t.Fatalf("within each other, but not equal, or the other way round: %v and %v", r, s)
	}
	if within && impl.IsWithin(s, u) && !impl.IsWithin(r, u) {
		t.Fatalf("%v is within %v, and that within %v, but not the first within the last", r, s, u)
	}
	if within && !(impl.IsWithin(compose(r, u), compose(s, u)) && impl.IsWithin(compose(u, r), compose(u, s))) {
		t.Fatalf("composition with %v does not keep %v within %v", u, r, s)
	}
}

func TestP3Order(t *testing.T) {
	forSmallRelations(t, checkOrder)
	r := newChance(22)
	for range 300 {
		n := chanceSize(r)
		x, y := chanceTable(r, n), chanceTable(r, n)
		part := tableBy(n, func(a int, b int) bool { return x[a][b] && y[a][b] })
		checkOrder(t, part.relation(), x.relation(), y.relation())
		checkOrder(t, x.relation(), part.relation(), y.relation())
		checkOrder(t, part.relation(), y.relation(), everything(n))
	}
}

// TestP3ClosureIsLeast holds closures against all relations of Size 3 that contain the relation and lead on from themselves.
func TestP3ClosureIsLeast(t *testing.T) {
	tables := allTables(3)
	onward := []rel{}
	for _, x := range tables {
		if r := x.relation(); impl.IsWithin(compose(r, r), r) {
			onward = append(onward, r)
		}
	}
	// The number of transitive relations on three elements is known.
	expect(t, len(onward), 171, "relations that lead on from themselves")
	for _, x := range tables {
		r := x.relation()
		least := everything(3)
		for _, s := range onward {
			if impl.IsWithin(r, s) {
				least = meet(least, s)
			}
		}
		if !isSame(closure(r), least) {
			t.Errorf("closure of %v: got %v, want %v", r, closure(r), least)
		}
	}
}

// TestP3ClosureOfLargeRelations: powers, joined until nothing comes in any more.
func TestP3ClosureOfLargeRelations(t *testing.T) {
	r := newChance(23)
	for range 300 {
		x := chanceTable(r, chanceSize(r)).relation()
		want, power := x, x
		for range x.Size {
			power = compose(power, x)
			want = join(want, power)
		}
		if !isSame(closure(x), want) {
			t.Fatalf("closure of %v: got %v, want %v", x, closure(x), want)
		}
	}
}
