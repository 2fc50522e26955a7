package tests

import (
	"math/rand/v2"
	"slices"
	"testing"

	"loop.example/g03221/impl"
)

func TestP13IsRelation(t *testing.T) {
	valid := map[string]impl.Relation{
		"zero value":          {},
		"no rows":             {Rows: [][]int{}},
		"Size 1":              {Size: 1, Rows: [][]int{nil}},
		"Size 1 and itself":   {Size: 1, Rows: [][]int{{0}}},
		"empty and nil rows":  {Size: 3, Rows: [][]int{nil, {}, {0, 1, 2}}},
		"first and last":      {Size: 3, Rows: [][]int{{0, 2}, {2}, {0}}},
		"Size 40":             {Size: 40, Rows: make([][]int, 40)},
		"everything, Size 40": everything(40),
	}
	for label, r := range valid {
		expect(t, impl.IsRelation(r), true, "IsRelation: %s", label)
		expect(t, impl.EqualRelations(r, r), true, "EqualRelations: %s", label)
		expect(t, impl.IsWithin(r, r), true, "IsWithin: %s", label)
		expect(t, wantRelation(r), true, "the test's own rules: %s", label)
	}
	for label, r := range notRelations() {
		expect(t, impl.IsRelation(r), false, "IsRelation: %s", label)
		expect(t, wantRelation(r), false, "the test's own rules: %s", label)
	}
}

// TestP13IsRelationByChance changes single numbers of relations.
func TestP13IsRelationByChance(t *testing.T) {
	r := newChance(24)
	valid := 0
	for range 5000 {
		x := chanceTable(r, 1+r.IntN(6)).relation()
		row := &x.Rows[r.IntN(x.Size)]
		switch r.IntN(5) {
		case 0:
			x.Size += r.IntN(3) - 1
		case 1:
			*row = append(*row, r.IntN(8)-1)
		case 2:
			slices.Reverse(*row)
		default:
			if len(*row) > 0 {
				(*row)[r.IntN(len(*row))] = r.IntN(8) - 1
			}
		}
		want := wantRelation(x)
		expect(t, impl.IsRelation(x), want, "IsRelation %v", x)
		if want {
			valid++
		}
	}
	if valid < 500 || valid > 4500 {
		t.Errorf("%d of the relations are valid", valid)
	}
}

func TestP13EqualRelations(t *testing.T) {
	r := impl.Relation{Size: 3, Rows: [][]int{{0, 1}, nil, {2}}}
	expect(t, impl.EqualRelations(r, impl.Relation{Size: 3, Rows: [][]int{{0, 1}, {}, {2}}}), true, "nil and empty rows")
	expect(t, impl.EqualRelations(impl.Relation{}, impl.Relation{Rows: [][]int{}}), true, "Size 0")
	others := []impl.Relation{
		{Size: 3, Rows: [][]int{{0}, nil, {2}}},
		{Size: 3, Rows: [][]int{{0, 1}, {0}, {2}}},
		{Size: 3, Rows: [][]int{{0, 1}, nil, {1}}},
		{Size: 3, Rows: [][]int{{0, 1}, {2}, nil}},
		{Size: 3, Rows: [][]int{{0, 2}, nil, {2}}},
		{Size: 4, Rows: [][]int{{0, 1}, nil, {2}, nil}},
		{Size: 3, Rows: [][]int{nil, nil, nil}},
		{},
	}
	for _, s := range others {
		expect(t, impl.EqualRelations(r, s) || impl.EqualRelations(s, r), false, "EqualRelations %v %v", r, s)
	}
	expect(t, impl.EqualRelations(impl.EmptyRelation(2), impl.EmptyRelation(3)), false, "nothing in different sizes")
}

func TestP13EmptyAndIdentity(t *testing.T) {
	for n := range 41 {
		expectTable(t, impl.EmptyRelation(n), newTable(n), "EmptyRelation %d", n)
		expectTable(t, impl.IdentityRelation(n), tableBy(n, func(a int, b int) bool { return a == b }), "IdentityRelation %d", n)
	}
	for _, n := range []int{-1, -40, 41, 64, 1000, lowest, highest} {
		expect(t, isZeroRelation(impl.EmptyRelation(n)), true, "EmptyRelation %d", n)
		expect(t, isZeroRelation(impl.IdentityRelation(n)), true, "IdentityRelation %d", n)
	}
}

func TestP13RelationOf(t *testing.T) {
	r, ok := impl.RelationOf(3, []impl.Pair{{A: 2, B: 2}, {A: 0, B: 2}, {A: 0, B: 0}, {A: 0, B: 2}, {A: 2, B: 2}})
	expect(t, ok, true, "pairs in any order, and twice")
	expect(t, r, impl.Relation{Size: 3, Rows: [][]int{{0, 2}, {}, {2}}}, "pairs in any order, and twice")
	r, ok = impl.RelationOf(40, make([]impl.Pair, 100000))
	expect(t, ok && len(impl.PairsOf(r)) == 1 && impl.IsRelated(r, 0, 0), true, "a pair very often")
	for n := range 41 {
		r, ok := impl.RelationOf(n, nil)
		expect(t, ok, true, "no pairs, Size %d", n)
		expectTable(t, r, newTable(n), "no pairs, Size %d", n)
		r, ok = impl.RelationOf(n, fullTable(n).pairs())
		expect(t, ok, true, "all pairs, Size %d", n)
		expect(t, isSame(r, everything(n)), true, "all pairs, Size %d", n)
	}
	for _, n := range []int{-1, 41, lowest, highest} {
		for _, pairs := range [][]impl.Pair{nil, {{A: 0, B: 0}}} {
			r, ok := impl.RelationOf(n, pairs)
			expect(t, !ok && isZeroRelation(r), true, "RelationOf %d %v", n, pairs)
		}
	}
	for _, x := range []int{-1, 3, 39, 40, 64, lowest, highest} {
		for _, p := range []impl.Pair{{A: x, B: 1}, {A: 1, B: x}, {A: x, B: x}} {
			for _, pairs := range [][]impl.Pair{{p}, {{A: 0, B: 1}, p}, {p, {A: 0, B: 1}}} {
				r, ok := impl.RelationOf(3, pairs)
				expect(t, !ok && isZeroRelation(r), true, "RelationOf 3 %v", pairs)
			}
		}
	}
	r, ok = impl.RelationOf(0, []impl.Pair{{A: 0, B: 0}})
	expect(t, !ok && isZeroRelation(r), true, "a pair of no numbers")
}

func TestP13PairsOf(t *testing.T) {
	r := impl.Relation{Size: 4, Rows: [][]int{{1, 3}, nil, {0, 1, 2}, {3}}}
	want := []impl.Pair{{A: 0, B: 1}, {A: 0, B: 3}, {A: 2, B: 0}, {A: 2, B: 1}, {A: 2, B: 2}, {A: 3, B: 3}}
	expect(t, impl.PairsOf(r), want, "by ascending A, then by ascending B")
	expect(t, len(impl.PairsOf(impl.Relation{})), 0, "pairs of no numbers")
	expect(t, len(impl.PairsOf(impl.EmptyRelation(40))), 0, "pairs of nothing")
	expect(t, len(impl.PairsOf(everything(40))), 1600, "pairs of everything")
}

func TestP13IsRelated(t *testing.T) {
	r := impl.Relation{Size: 3, Rows: [][]int{{1, 2}, nil, {0}}}
	for a := -2; a < 6; a++ {
		for b := -2; b < 6; b++ {
			want := a == 0 && (b == 1 || b == 2) || a == 2 && b == 0
			expect(t, impl.IsRelated(r, a, b), want, "IsRelated %d %d", a, b)
		}
	}
	for _, x := range []int{lowest, -1, 40, 64, highest} {
		for b := range 40 {
			expect(t, impl.IsRelated(everything(40), x, b) || impl.IsRelated(everything(40), b, x) || impl.IsRelated(everything(40), x, x), false, "IsRelated %d %d", x, b)
		}
	}
	expect(t, impl.IsRelated(impl.Relation{}, 0, 0), false, "no numbers")
}

func TestP13Operations(t *testing.T) {
	r := impl.Relation{Size: 4, Rows: [][]int{{1, 2}, {2}, nil, {3}}}
	s := impl.Relation{Size: 4, Rows: [][]int{{0, 2}, {3}, {1}, {3}}}
	of := func(rows ...[]int) impl.Relation { return impl.Relation{Size: len(rows), Rows: rows} }
	expect(t, impl.JoinRelations(r, s), of([]int{0, 1, 2}, []int{2, 3}, []int{1}, []int{3}), "JoinRelations")
	expect(t, impl.MeetRelations(r, s), of([]int{2}, nil, nil, []int{3}), "MeetRelations")
	expect(t, impl.LessRelation(r, s), of([]int{1}, []int{2}, nil, nil), "LessRelation")
	expect(t, impl.LessRelation(s, r), of([]int{0}, []int{3}, []int{1}, nil), "LessRelation the other way round")
	expect(t, impl.ComposeRelations(r, s), of([]int{1, 3}, []int{1}, nil, []int{3}), "ComposeRelations")
	expect(t, impl.ComposeRelations(s, r), of([]int{1, 2}, []int{3}, []int{2}, []int{3}), "ComposeRelations the other way round")
	expect(t, impl.ConverseRelation(r), of(nil, []int{0}, []int{0, 1}, []int{3}), "ConverseRelation")
	expect(t, impl.ClosureRelation(r), of([]int{1, 2}, []int{2}, nil, []int{3}), "ClosureRelation of what leads on")
	expect(t, impl.ClosureRelation(s), of([]int{0, 1, 2, 3}, []int{3}, []int{1, 3}, []int{3}), "ClosureRelation")
	expect(t, impl.IsWithin(r, s) || impl.IsWithin(s, r), false, "IsWithin")
	expect(t, impl.IsWithin(of(nil, nil, nil, []int{3}), r), true, "IsWithin")
}

// TestP13Closures: ways that lead far, and numbers that are reached from themselves or are not.
func TestP13Closures(t *testing.T) {
	next := tableBy(40, func(a int, b int) bool { return b == a+1 })
	expectTable(t, impl.ClosureRelation(next.relation()), tableBy(40, func(a int, b int) bool { return a < b }), "a chain")
	before := tableBy(40, func(a int, b int) bool { return b == a-1 })
	expectTable(t, impl.ClosureRelation(before.relation()), tableBy(40, func(a int, b int) bool { return a > b }), "a chain down")
	round := tableBy(40, func(a int, b int) bool { return b == (a+7)%40 })
	expect(t, isSame(impl.ClosureRelation(round.relation()), everything(40)), true, "a round")
	rounds := tableBy(40, func(a int, b int) bool { return b == (a+6)%40 })
	expectTable(t, impl.ClosureRelation(rounds.relation()), tableBy(40, func(a int, b int) bool { return a%2 == b%2 }), "two rounds")
	two := relation(t, 3, impl.Pair{A: 0, B: 2}, impl.Pair{A: 2, B: 0})
	expect(t, impl.ClosureRelation(two), impl.Relation{Size: 3, Rows: [][]int{{0, 2}, nil, {0, 2}}}, "back and forth")
	r := newChance(25)
	for range 50 {
		order := r.Perm(40)
		way := newTable(40)
		for k := range 39 {
			way[order[k]][order[k+1]] = true
		}
		expectTable(t, impl.ClosureRelation(way.relation()), wantReached(way), "the way %v", order)
	}
}

// TestP13RelationsByChance holds all functions against tables.
func TestP13RelationsByChance(t *testing.T) {
	r := newChance(26)
	for range 500 {
		n := chanceSize(r)
		checkAgainstTables(t, r, chanceTable(r, n), chanceTable(r, n))
	}
	for n := range 3 {
		for _, x := range allTables(n) {
			for _, y := range allTables(n) {
				checkAgainstTables(t, r, x, y)
			}
		}
	}
	for _, x := range allTables(3) {
		checkAgainstTables(t, r, x, chanceTable(r, 3))
	}
}

func checkAgainstTables(t *testing.T, r *rand.Rand, x table, y table) {
	t.Helper()
	n, f, g := len(x), x.relation(), y.relation()
	pairs := x.pairs()
	expect(t, impl.PairsOf(f), pairs, "PairsOf %v", f)
	r.Shuffle(len(pairs), func(i, j int) { pairs[i], pairs[j] = pairs[j], pairs[i] })
	expectTable(t, relation(t, n, pairs...), x, "RelationOf %d %v", n, pairs)
	same, within := true, true
	for a := range n {
		for b := range n {
			same = same && x[a][b] == y[a][b]
			within = within && (!x[a][b] || y[a][b])
			if impl.IsRelated(f, a, b) != x[a][b] {
				t.Errorf("IsRelated %v %d %d", f, a, b)
			}
		}
	}
	expect(t, impl.EqualRelations(f, g), same, "EqualRelations %v %v", f, g)
	expect(t, impl.EqualRelations(f, x.relation()), true, "EqualRelations %v twice", f)
	expect(t, impl.IsWithin(f, g), within, "IsWithin %v %v", f, g)
	expectTable(t, impl.JoinRelations(f, g), tableBy(n, func(a int, b int) bool { return x[a][b] || y[a][b] }), "JoinRelations %v %v", f, g)
	expectTable(t, impl.MeetRelations(f, g), tableBy(n, func(a int, b int) bool { return x[a][b] && y[a][b] }), "MeetRelations %v %v", f, g)
	expectTable(t, impl.LessRelation(f, g), tableBy(n, func(a int, b int) bool { return x[a][b] && !y[a][b] }), "LessRelation %v %v", f, g)
	expectTable(t, impl.ComposeRelations(f, g), wantComposed(x, y), "ComposeRelations %v %v", f, g)
	expectTable(t, impl.ConverseRelation(f), tableBy(n, func(a int, b int) bool { return x[b][a] }), "ConverseRelation %v", f)
	expectTable(t, impl.ClosureRelation(f), wantReached(x), "ClosureRelation %v", f)
}
