package tests

import (
	"math/big"
	"math/rand/v2"
	"slices"
	"testing"

	"loop.example/g03221/impl"
)

// The functions below say again, in the plainest way, what the document says of degrees and kinship.

func wantDyad(d impl.Dyad) bool {
	if d.Num < 0 || d.Num > 1073741824 || d.Exp < 0 || d.Exp > 30 {
		return false
	}
	return d.Exp == 0 || d.Num%2 == 1
}

func fraction(num int, exp int) *big.Rat {
	return big.NewRat(int64(num), 1<<exp)
}

// dyadFor returns the valid dyad for a fraction, if there is one.
func dyadFor(x *big.Rat) (impl.Dyad, bool) {
	for exp := range 31 {
		if x.Denom().Cmp(big.NewInt(1<<exp)) == 0 {
			d := impl.Dyad{Num: int(x.Num().Int64()), Exp: exp}
			return d, x.Num().IsInt64() && wantDyad(d)
		}
	}
	return impl.Dyad{}, false
}

// stepsBetween returns the least number of steps from p up to q, or -1.
func stepsBetween(f impl.Family, p int, q int) int {
	if p == q {
		return 0
	}
	least := -1
	for _, parent := range wantParents(f, p) {
		if n := stepsBetween(f, parent, q); n != -1 && (least == -1 || n+1 < least) {
			least = n + 1
		}
	}
	return least
}

// linesBetween returns all lines, however many, from q to p.
func linesBetween(f impl.Family, q int, p int) [][]int {
	if p == q {
		return [][]int{{q}}
	}
	lines := [][]int{}
	for _, parent := range wantParents(f, p) {
		for _, line := range linesBetween(f, q, parent) {
			lines = append(lines, append(slices.Clone(line), p))
		}
	}
	slices.SortFunc(lines, slices.Compare)
	return lines
}

// degrees says what holds for a family: up[p][q] are the steps from p to q, down[q][p] the lines from q to p, and known the kinships that are found already.
type degrees struct {
	f     impl.Family
	up    [][]int
	down  [][][][]int
	known map[[2]int]*big.Rat
}

func degreesOf(f impl.Family) degrees {
	d := degrees{f: f, known: map[[2]int]*big.Rat{}}
	for a := range f.People {
		d.up, d.down = append(d.up, nil), append(d.down, nil)
		for b := range f.People {
			d.up[a] = append(d.up[a], stepsBetween(f, a, b))
			d.down[a] = append(d.down[a], linesBetween(f, a, b))
		}
	}
	return d
}

// isAbove: q is an ancestor of p.
func (d degrees) isAbove(q int, p int) bool { return p != q && d.up[p][q] != -1 }

func (d degrees) where(wanted func(q int) bool) []int {
	list := []int{}
	for q := range d.f.People {
		if wanted(q) {
			list = append(list, q)
		}
	}
	return list
}

func (d degrees) above(p int) []int { return d.where(func(q int) bool { return d.isAbove(q, p) }) }

func (d degrees) below(p int) []int { return d.where(func(q int) bool { return d.isAbove(p, q) }) }

func (d degrees) common(a int, b int) []int {
	return d.where(func(q int) bool { return d.up[a][q] != -1 && d.up[b][q] != -1 })
}

func (d degrees) nearest(a int, b int) []int {
	common := d.common(a, b)
	return slices.DeleteFunc(slices.Clone(common), func(q int) bool {
		return slices.ContainsFunc(common, func(other int) bool { return d.isAbove(q, other) })
	})
}

// link goes through all numbers of steps, in the order in which they are chosen.
func (d degrees) link(a int, b int) (int, int, bool) {
	links := map[[2]int]bool{}
	for _, q := range d.common(a, b) {
		links[[2]int{d.up[a][q], d.up[b][q]}] = true
	}
	for sum := range 21 {
		for greater := range sum + 1 {
			for first := range sum + 1 {
				if max(first, sum-first) == greater && links[[2]int{first, sum - first}] {
					return first, sum - first, true
				}
			}
		}
	}
	return 0, 0, false
}

func (d degrees) canon(a int, b int) (int, bool) {
	for n := range 11 {
		for _, q := range d.common(a, b) {
			if max(d.up[a][q], d.up[b][q]) == n {
				return n, true
			}
		}
	}
	return 0, false
}

// lines returns false where there are too many.
func (d degrees) lines(q int, p int) ([][]int, bool) {
	if len(d.down[q][p]) > 100 {
		return nil, false
	}
	return d.down[q][p], true
}

// kinship follows the rules of the document, in their order.
func (d degrees) kinship(a int, b int) *big.Rat {
	if x := d.known[[2]int{a, b}]; x != nil {
		return x
	}
	x := new(big.Rat)
	switch {
	case a == b:
		x.Add(big.NewRat(1, 2), half(d.inbreeding(a)))
	case d.isAbove(a, b):
		x.Set(d.kinship(b, a))
	default:
		for _, parent := range wantParents(d.f, a) {
			x.Add(x, half(d.kinship(b, parent)))
		}
	}
	d.known[[2]int{a, b}] = x
	return x
}

func half(x *big.Rat) *big.Rat { return new(big.Rat).Mul(x, big.NewRat(1, 2)) }

func (d degrees) inbreeding(p int) *big.Rat {
	if parents := wantParents(d.f, p); len(parents) == 2 {
		return d.kinship(parents[0], parents[1])
	}
	return new(big.Rat)
}

// byLines returns false where there are too many lines.
func (d degrees) byLines(a int, b int) (*big.Rat, bool) {
	sum := new(big.Rat)
	for _, q := range d.common(a, b) {
		toA, fewA := d.lines(q, a)
		toB, fewB := d.lines(q, b)
		if !fewA || !fewB {
			return new(big.Rat), false
		}
		pairs := map[int]int64{}
		for _, x := range toA {
			for _, y := range toB {
				if !slices.ContainsFunc(x[1:], func(p int) bool { return slices.Contains(y, p) }) {
					pairs[len(x)+len(y)-2]++
				}
			}
		}
		share := new(big.Rat).Add(big.NewRat(1, 1), d.inbreeding(q))
		for n, times := range pairs {
			sum.Add(sum, new(big.Rat).Mul(share, big.NewRat(times, 1<<(n+1))))
		}
	}
	return sum, true
}

// expectDyad: the dyad is valid and stands for the fraction.
func expectDyad(t *testing.T, got impl.Dyad, want *big.Rat, label string, args ...any) {
	t.Helper()
	d, ok := dyadFor(want)
	if !ok {
		t.Fatalf("no dyad for %v", want)
	}
	expect(t, got, d, label, args...)
}

// Families.

// ladder has a man and a woman of each generation, who are the parents of the next ones: 2*g and 2*g+1 are those of the generation g.
func ladder(generations int) impl.Family {
	var f impl.Family
	for g := range generations + 1 {
		father, mother := 2*g-2, 2*g-1
		if g == 0 {
			father, mother = -1, -1
		}
		name := string(rune('a' + g))
		f.People = append(f.People,
			impl.Person{Name: name + "m", Sex: 1, Father: father, Mother: mother, Born: 20 * g, Died: -1},
			impl.Person{Name: name + "w", Sex: 2, Father: father, Mother: mother, Born: 20 * g, Died: -1})
	}
	return f
}

// addChild adds a person behind all others, and returns the index.
func addChild(f *impl.Family, sex int, father int, mother int) int {
	n := len(f.People)
	p := impl.Person{Name: "x" + string(rune('a'+n%20)) + string(rune('a'+n/20)), Sex: sex, Father: father, Mother: mother, Died: -1}
	for _, x := range []int{father, mother} {
		if x != -1 {
			p.Born = max(p.Born, f.People[x].Born+20)
		}
	}
	f.People = append(f.People, p)
	return n
}

// The persons of manyLines to whom that many lines lead from the first ones.
const (
	by96  = 16
	by100 = 17
	by101 = 18
	by99  = 20
)

func manyLines(t *testing.T) impl.Family {
	t.Helper()
	f := ladder(7)
	addChild(&f, 2, 14, 13)
	addChild(&f, 1, 6, by96)
	addChild(&f, 2, by100, 3)
	by98 := addChild(&f, 1, 4, by96)
	addChild(&f, 1, by98, 3)
	if !impl.IsFamily(f) || len(f.People) != by99+1 {
		t.Fatalf("not valid: %v", f)
	}
	return f
}

// inbredFamily has small generations, most of them of children of the one before, so that persons have many lines of descent in common.
func inbredFamily(r *rand.Rand, n int) impl.Family {
	var f impl.Family
	size := 2 + r.IntN(4)
	for i := range n {
		g := min(i/size, impl.MaxDepth)
		p := impl.Person{Name: chanceName(r, i), Sex: 1 + i%2, Born: 10*g + r.IntN(10), Died: -1}
		if r.IntN(6) == 0 {
			p.Sex = 1 + r.IntN(2)
		}
		// Some parents are of older generations.
		men, women := (g-1-r.IntN(5)/4*3)*size, (g-1-r.IntN(5)/4*3)*size
		p.Father, p.Mother = parentByChance(r, f, 1, men, g*size), parentByChance(r, f, 2, women, g*size)
		f.People = append(f.People, p)
	}
	return f
}

// parentByChance returns a person with an index from first on and below end, or -1.
func parentByChance(r *rand.Rand, f impl.Family, sex int, first int, end int) int {
	list := []int{}
	for q := max(0, first); q < end; q++ {
		if f.People[q].Sex == sex {
			list = append(list, q)
		}
	}
	if len(list) == 0 || r.IntN(16) == 0 {
		return -1
	}
	return list[r.IntN(len(list))]
}

func degreeFamilies(t *testing.T, r *rand.Rand, n int) []impl.Family {
	t.Helper()
	list := append(descentFamilies(t, r, n), ladder(10), manyLines(t))
	for range n {
		f := inbredFamily(r, 1+r.IntN(impl.MaxPeople))
		if !impl.IsFamily(f) {
			t.Fatalf("not valid: %v", f)
		}
		list = append(list, f)
	}
	return list
}

// notDyads has numbers that make no valid dyad.
func notDyads() []impl.Dyad {
	return []impl.Dyad{
		{Num: -1}, {Num: -1, Exp: 1}, {Num: -3, Exp: 2}, {Num: lowest}, {Num: lowest, Exp: 30}, {Num: lowest + 1, Exp: 3},
		{Num: 1073741825}, {Num: 1073741825, Exp: 1}, {Num: 1<<32 + 1, Exp: 1}, {Num: 1 << 31}, {Num: highest}, {Num: highest, Exp: 1}, {Num: highest, Exp: 30},
		{Num: 1, Exp: -1}, {Num: 0, Exp: -1}, {Num: 1, Exp: lowest}, {Num: 1, Exp: 31}, {Num: 1, Exp: 32}, {Num: 1, Exp: 64}, {Num: 3, Exp: highest},
		{Num: 0, Exp: 1}, {Num: 0, Exp: 30}, {Num: 0, Exp: 31}, {Num: 2, Exp: 1}, {Num: 2, Exp: 30}, {Num: 6, Exp: 2}, {Num: 1073741824, Exp: 1}, {Num: 1073741824, Exp: 30},
		{Num: 1073741822, Exp: 1}, {Num: 1 << 29, Exp: 30},
	}
}
