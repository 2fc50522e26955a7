package tests

import (
	"fmt"
	"testing"

	"loop.example/g03221/impl"
)

// fromTwo and fromOne have the functions that make a relation from two relations and from one.
func fromTwo() map[string]func(r, s impl.Relation) impl.Relation {
	return map[string]func(r, s impl.Relation) impl.Relation{
		"JoinRelations":    impl.JoinRelations,
		"MeetRelations":    impl.MeetRelations,
		"LessRelation":     impl.LessRelation,
		"ComposeRelations": impl.ComposeRelations,
	}
}

func fromOne() map[string]func(r impl.Relation) impl.Relation {
	return map[string]func(r impl.Relation) impl.Relation{
		"ConverseRelation": impl.ConverseRelation,
		"ClosureRelation":  impl.ClosureRelation,
	}
}

// checkNoPair: two relations that do not go together.
func checkNoPair(t *testing.T, r impl.Relation, s impl.Relation, label string) {
	t.Helper()
	for name, f := range fromTwo() {
		expect(t, isZeroRelation(f(r, s)), true, "%s: %s", name, label)
	}
	expect(t, impl.EqualRelations(r, s), false, "EqualRelations: %s", label)
	expect(t, impl.IsWithin(r, s), false, "IsWithin: %s", label)
}

func TestP13RelationsThatAreNotValid(t *testing.T) {
	for label, r := range notRelations() {
		for name, f := range fromOne() {
			expect(t, isZeroRelation(f(r)), true, "%s: %s", name, label)
		}
		expect(t, len(impl.PairsOf(r)), 0, "PairsOf: %s", label)
		for _, a := range []int{lowest, -1, 0, 1, 2, 3, 39, 40, 41, 64, highest} {
			for _, b := range []int{lowest, -1, 0, 1, 2, 3, 39, 40, 41, 64, highest} {
				expect(t, impl.IsRelated(r, a, b), false, "IsRelated %d %d: %s", a, b, label)
			}
		}
		checkNoPair(t, r, r, label+", twice")
		for _, s := range []impl.Relation{{}, impl.EmptyRelation(3), everything(3), everything(40)} {
			checkNoPair(t, r, s, label+", first")
			checkNoPair(t, s, r, label+", second")
		}
	}
}

func TestP13RelationsOfDifferentSize(t *testing.T) {
	for n := range 41 {
		for _, m := range []int{0, 1, 2, n - 1, n + 1, 40} {
			if n == m || m < 0 || m > 40 {
				continue
			}
			checkNoPair(t, everything(n), everything(m), fmt.Sprint(n, " and ", m))
			checkNoPair(t, impl.EmptyRelation(n), everything(m), fmt.Sprint("nothing of ", n, " and ", m))
		}
	}
}

func TestP13RelationsOfNoNumbers(t *testing.T) {
	for _, r := range []impl.Relation{{}, {Rows: [][]int{}}} {
		for name, f := range fromTwo() {
			expect(t, isZeroRelation(f(r, impl.Relation{})), true, "%s", name)
		}
		for name, f := range fromOne() {
			expect(t, isZeroRelation(f(r)), true, "%s", name)
		}
		expect(t, impl.IsWithin(r, impl.Relation{}), true, "IsWithin")
		expect(t, impl.EqualRelations(r, impl.Relation{}), true, "EqualRelations")
	}
	r, ok := impl.RelationOf(0, nil)
	expect(t, ok && isZeroRelation(r), true, "RelationOf")
	expect(t, isZeroRelation(impl.EmptyRelation(0)) && isZeroRelation(impl.IdentityRelation(0)), true, "EmptyRelation and IdentityRelation")
}

// askRelations gives two relations to all functions, and returns the relations that come out.
func askRelations(r impl.Relation, s impl.Relation) []impl.Relation {
	impl.IsRelation(r)
	impl.EqualRelations(r, s)
	impl.PairsOf(r)
	impl.IsRelated(r, 0, 1)
	impl.IsWithin(r, s)
	list := []impl.Relation{}
	for _, f := range fromTwo() {
		list = append(list, f(r, s), f(s, r), f(r, r))
	}
	for _, f := range fromOne() {
		list = append(list, f(r), f(s))
	}
	return append(list, impl.EmptyRelation(r.Size), impl.IdentityRelation(r.Size))
}

// roomyRelation has room behind the rows and behind each row, which is filled with marks.
func roomyRelation(r impl.Relation) impl.Relation {
	rows := make([][]int, len(r.Rows))
	for a, row := range r.Rows {
		rows[a] = roomy(row, 77)
	}
	return impl.Relation{Size: r.Size, Rows: roomy(rows, []int{77})}
}

// withRoom says all that is in a relation and in the room behind its parts.
func withRoom(r impl.Relation) string {
	rows := [][]int{}
	for _, row := range r.Rows[:cap(r.Rows)] {
		rows = append(rows, row[:cap(row)])
	}
	return fmt.Sprint(r.Size, len(r.Rows), rows)
}

func TestP13RelationsAreKept(t *testing.T) {
	r := newChance(27)
	for n := range 41 {
		x, y := roomyRelation(chanceTable(r, n).relation()), roomyRelation(chanceTable(r, n).relation())
		before := withRoom(x) + withRoom(y)
		askRelations(x, y)
		expect(t, withRoom(x)+withRoom(y), before, "relations of Size %d and the room behind them", n)
		pairs := roomy(chanceTable(r, n).pairs(), impl.Pair{A: 77})
		r.Shuffle(len(pairs), func(i, j int) { pairs[i], pairs[j] = pairs[j], pairs[i] })
		kept := fmt.Sprint(pairs[:cap(pairs)])
		impl.RelationOf(n, pairs)
		expect(t, fmt.Sprint(pairs[:cap(pairs)]), kept, "pairs of Size %d and the room behind them", n)
	}
	for label, x := range notRelations() {
		x = roomyRelation(x)
		before := withRoom(x)
		askRelations(x, x)
		askRelations(everything(3), x)
		expect(t, withRoom(x), before, "%s", label)
	}
}

func TestP13RelationsAreNew(t *testing.T) {
	r := newChance(28)
	for _, n := range []int{1, 2, 3, 8, 40} {
		// Where nothing has to be done, an argument is returned most easily.
		kinds := []func() impl.Relation{
			func() impl.Relation { return chanceTable(r, n).relation() },
			func() impl.Relation { return everything(n) },
			func() impl.Relation { return newTable(n).relation() },
			func() impl.Relation { return tableBy(n, func(a int, b int) bool { return a == b }).relation() },
		}
		for _, x := range kinds {
			for _, y := range kinds {
				checkNew(t, x(), y(), chanceTable(r, n).pairs())
			}
		}
	}
}

// checkNew writes a number of its own into each row of each result, with the room behind it: nothing else changes.
func checkNew(t *testing.T, x impl.Relation, y impl.Relation, pairs []impl.Pair) {
	t.Helper()
	n := x.Size
	before := withRoom(x) + withRoom(y) + fmt.Sprint(pairs)
	results := askRelations(x, y)
	results = append(results, relation(t, n, pairs...), relation(t, n, pairs...), impl.EmptyRelation(n), impl.IdentityRelation(n))
	for k, result := range results {
		for a, row := range result.Rows[:cap(result.Rows)] {
			mark(row, 100+k*100+a)
		}
	}
	for k, result := range results {
		for a, row := range result.Rows {
			expect(t, hasMark(row, 100+k*100+a), true, "row %d of result %d for %s", a, k, before)
		}
	}
	spoilPairs(impl.PairsOf(x))
	expect(t, withRoom(x)+withRoom(y)+fmt.Sprint(pairs), before, "the arguments")
	for _, result := range results {
		clear(result.Rows[:cap(result.Rows)])
	}
	expect(t, withRoom(x)+withRoom(y)+fmt.Sprint(pairs), before, "the arguments, after rows were removed")
}

func mark(row []int, x int) {
	for i := range row[:cap(row)] {
		row[:cap(row)][i] = x
	}
}

func hasMark(row []int, x int) bool {
	for _, b := range row[:cap(row)] {
		if b != x {
			return false
		}
	}
	return true
}

func spoilPairs(pairs []impl.Pair) {
	for i := range pairs[:cap(pairs)] {
		pairs[:cap(pairs)][i] = impl.Pair{A: 99, B: 99}
	}
}

// TestP13RelationsNoPanic gives functions relations that are far from valid.
func TestP13RelationsNoPanic(t *testing.T) {
	r := newChance(29)
	numbers := []int{lowest, lowest + 1, -2, -1, 0, 1, 2, 3, 39, 40, 41, 63, 64, 65, highest - 1, highest}
	number := func() int { return numbers[r.IntN(len(numbers))] }
	junk := func() impl.Relation {
		x := impl.Relation{Size: r.IntN(5)}
		if r.IntN(4) == 0 {
			x.Size = number()
		}
		for range r.IntN(5) {
			row := []int{}
			for range r.IntN(3) {
				row = append(row, number())
			}
			x.Rows = append(x.Rows, row)
		}
		return x
	}
	for range 5000 {
		x, y := junk(), junk()
		expect(t, impl.IsRelation(x), wantRelation(x), "IsRelation %v", x)
		for _, result := range askRelations(x, y) {
			expect(t, wantRelation(result), true, "a result for %v and %v", x, y)
		}
		impl.IsRelated(x, number(), number())
		pairs := []impl.Pair{{A: number(), B: number()}, {A: number(), B: number()}}
		made, ok := impl.RelationOf(number(), pairs[:r.IntN(3)])
		expect(t, wantRelation(made) && (ok || isZeroRelation(made)), true, "RelationOf %v", pairs)
	}
}

func TestP13RelationsAreTheSameEachTime(t *testing.T) {
	r := newChance(30)
	for range 50 {
		n := chanceSize(r)
		x, y := chanceTable(r, n).relation(), chanceTable(r, n).relation()
		for name, f := range fromTwo() {
			expect(t, f(x, y), f(roomyRelation(x), roomyRelation(y)), "%s", name)
		}
		for name, f := range fromOne() {
			expect(t, f(x), f(roomyRelation(x)), "%s", name)
		}
	}
}
