package tests

import (
	"fmt"
	"math/rand/v2"
	"slices"
	"testing"

	"loop.example/g03221/impl"
)

// A table says of each two numbers whether they are related: relations in the plainest way.
type table [][]bool

func newTable(n int) table {
	m := make(table, n)
	for a := range m {
		m[a] = make([]bool, n)
	}
	return m
}

// tableBy returns the table of Size n of what is related by a rule.
func tableBy(n int, related func(a int, b int) bool) table {
	m := newTable(n)
	for a := range n {
		for b := range n {
			m[a][b] = related(a, b)
		}
	}
	return m
}

func (m table) pairs() []impl.Pair {
	list := []impl.Pair{}
	for a := range m {
		for b := range m {
			if m[a][b] {
				list = append(list, impl.Pair{A: a, B: b})
			}
		}
	}
	return list
}

func (m table) relation() impl.Relation {
	r := impl.Relation{Size: len(m), Rows: make([][]int, len(m))}
	for _, p := range m.pairs() {
		r.Rows[p.A] = append(r.Rows[p.A], p.B)
	}
	return r
}

// wantRelation says again what the document says of a valid relation.
func wantRelation(r impl.Relation) bool {
	if r.Size < 0 || r.Size > 40 || len(r.Rows) != r.Size {
		return false
	}
	for _, row := range r.Rows {
		for i, b := range row {
			if b < 0 || b >= r.Size || i > 0 && row[i-1] >= b {
				return false
			}
		}
	}
	return true
}

func wantComposed(x table, y table) table {
	return tableBy(len(x), func(a int, c int) bool {
		for b := range x {
			if x[a][b] && y[b][c] {
				return true
			}
		}
		return false
	})
}

// wantReached walks step by step from each number.
func wantReached(x table) table {
	m := newTable(len(x))
	for a := range x {
		todo := []int{a}
		for len(todo) > 0 {
			b := todo[0]
			todo = todo[1:]
			for c := range x {
				if x[b][c] && !m[a][c] {
					m[a][c] = true
					todo = append(todo, c)
				}
			}
		}
	}
	return m
}

// isSame compares without the functions that are tested.
func isSame(r impl.Relation, s impl.Relation) bool {
	return r.Size == s.Size && slices.EqualFunc(r.Rows, s.Rows, slices.Equal[[]int])
}

func isZeroRelation(r impl.Relation) bool { return r.Size == 0 && len(r.Rows) == 0 }

func expectTable(t *testing.T, got impl.Relation, want table, label string, args ...any) {
	t.Helper()
	if !isSame(got, want.relation()) {
		t.Errorf("%s: got %v, want %v", fmt.Sprintf(label, args...), got, want.relation())
	}
}

// relation returns a relation that has to be possible.
func relation(t *testing.T, n int, pairs ...impl.Pair) impl.Relation {
	t.Helper()
	r, ok := impl.RelationOf(n, pairs)
	if !ok {
		t.Fatalf("RelationOf refuses %d and %v", n, pairs)
	}
	return r
}

func fullTable(n int) table {
	return tableBy(n, func(a int, b int) bool { return true })
}

func everything(n int) impl.Relation { return fullTable(n).relation() }

// allTables returns all tables of a small Size.
func allTables(n int) []table {
	list := []table{}
	for bits := range 1 << (n * n) {
		list = append(list, tableBy(n, func(a int, b int) bool { return bits>>(a*n+b)&1 == 1 }))
	}
	return list
}

// chanceTable is sparse or dense by chance, for closures differ most from sparse relations.
func chanceTable(r *rand.Rand, n int) table {
	dense := []int{0, 1, 2, 5, 10, 30, 70, 95, 100}[r.IntN(9)]
	if r.IntN(2) == 0 && n > 0 {
		dense = 100 / n
	}
	return tableBy(n, func(a int, b int) bool { return r.IntN(100) < dense })
}

func chanceSize(r *rand.Rand) int {
	if r.IntN(8) == 0 {
		return impl.MaxPeople
	}
	return r.IntN(impl.MaxPeople + 1)
}

// notRelations returns relations that are not valid, with what is wrong about each of them.
func notRelations() map[string]impl.Relation {
	wide := impl.Relation{Size: 41, Rows: make([][]int, 41)}
	return map[string]impl.Relation{
		"Size -1":                    {Size: -1},
		"Size -1 and a row":          {Size: -1, Rows: [][]int{{}}},
		"the lowest Size":            {Size: lowest},
		"the highest Size":           {Size: highest},
		"Size 41":                    wide,
		"Size 40 with 41 rows":       {Size: 40, Rows: wide.Rows},
		"Size 40 with 39 rows":       {Size: 40, Rows: wide.Rows[:39]},
		"Size 3 without rows":        {Size: 3},
		"Size 3 with two rows":       {Size: 3, Rows: [][]int{{0}, {1}}},
		"Size 3 with four rows":      {Size: 3, Rows: [][]int{{0}, {1}, {2}, {}}},
		"Size 0 with a row":          {Size: 0, Rows: [][]int{{}}},
		"a number twice":             {Size: 3, Rows: [][]int{{}, {1, 1}, {}}},
		"a row that descends":        {Size: 3, Rows: [][]int{{}, {}, {2, 1}}},
		"a row that ends descending": {Size: 3, Rows: [][]int{{0, 2, 1}, {}, {}}},
		"the number -1":              {Size: 3, Rows: [][]int{{-1}, {}, {}}},
		"the number -1 before 0":     {Size: 3, Rows: [][]int{{-1, 0}, {}, {}}},
		"the number Size":            {Size: 3, Rows: [][]int{{}, {}, {0, 3}}},
		"a number of 64 and more":    {Size: 3, Rows: [][]int{{}, {64}, {}}},
		"the lowest number":          {Size: 3, Rows: [][]int{{lowest}, {}, {}}},
		"the highest number":         {Size: 3, Rows: [][]int{{}, {highest}, {}}},
		"a long row":                 {Size: 3, Rows: [][]int{{0, 1, 2, 3, 4, 5}, {}, {}}},
		"the same number very often": {Size: 3, Rows: [][]int{{}, make([]int, 100000), {}}},
	}
}
