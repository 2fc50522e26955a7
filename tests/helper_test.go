package tests

import (
	"fmt"
	"math/rand/v2"
	"slices"
	"strings"
	"testing"

	"loop.example/g03221/impl"
)

const (
	lowest  = -1 << 63
	highest = 1<<63 - 1
)

// house is a family with full, half and no siblings, a child born after the father's death,
// persons born in one year, and unions that ended in every way.
const house = "man adam - - 0 50\n" +
	"woman eva - - 2 60\n" +
	"woman lilith - - 1 -\n" +
	"woman ada adam eva 22 -\n" +
	"man cain adam eva 20 70\n" +
	"man abel adam eva 22 40\n" +
	"man seth adam lilith 21 -\n" +
	"woman zilla adam - 51 -\n" +
	"man enos - lilith 30 -\n" +
	"man tubal cain ada 45 -\n" +
	"man stranger - - 10 -\n" +
	"union adam eva 18 -\n" +
	"union adam lilith 19 25\n" +
	"union cain ada 40 -\n" +
	"union stranger lilith 26 -\n"

func parse(t *testing.T, text string) impl.Family {
	t.Helper()
	f, ok := impl.ParseFamily(text)
	if !ok {
		t.Fatalf("ParseFamily refuses %q", text)
	}
	return f
}

func expect[T any](t *testing.T, got T, want T, label string, args ...any) {
	t.Helper()
	if fmt.Sprintf("%v", got) != fmt.Sprintf("%v", want) {
		t.Errorf("%s: got %v, want %v", fmt.Sprintf(label, args...), got, want)
	}
}

// eachChange gives check the text cut off at each place, and with each byte removed, changed and added.
func eachChange(text string, check func(text string)) {
	for i := range len(text) + 1 {
		check(text[:i])
		check(text[i:])
		if i < len(text) {
			check(text[:i] + text[i+1:])
		}
		for b := range 256 {
			added := string([]byte{byte(b)})
			check(text[:i] + added + text[i:])
			if i < len(text) {
				check(text[:i] + added + text[i+1:])
			}
		}
	}
}

func isZeroFamily(f impl.Family) bool {
	return len(f.People) == 0 && len(f.Unions) == 0
}

func copyOf(f impl.Family) impl.Family {
	return impl.Family{
		People: append([]impl.Person(nil), f.People...),
		Unions: append([]impl.Union(nil), f.Unions...),
	}
}

// notFamilies returns families that are not valid: the house after changes.
func notFamilies(t *testing.T) []impl.Family {
	t.Helper()
	changes := []func(f *impl.Family){
		func(f *impl.Family) { f.People[10].Name = "adam" },
		func(f *impl.Family) { f.People[10].Sex = 7 },
		func(f *impl.Family) { f.People[9].Father = 99 },
		func(f *impl.Family) { f.People[9].Mother = lowest },
		func(f *impl.Family) { f.People[3].Mother = 3 },
		func(f *impl.Family) { f.People[10].Born = -1 },
		func(f *impl.Family) { f.People[10].Died = 3 },
		func(f *impl.Family) { f.Unions[3].Man = 99 },
		func(f *impl.Family) { f.Unions[3].Woman = -1 },
		func(f *impl.Family) { f.Unions[3].To = 3 },
		func(f *impl.Family) { f.Unions[3] = f.Unions[0] },
		func(f *impl.Family) { f.Unions = append(f.Unions, make([]impl.Union, 60)...) },
		func(f *impl.Family) { f.People = append(f.People, make([]impl.Person, 40)...) },
	}
	list := []impl.Family{}
	for _, change := range changes {
		f := copyOf(parse(t, house))
		change(&f)
		list = append(list, f)
	}
	return list
}

// The functions below say again, in the plainest way, what the document says of a family.

func wantName(s string) bool {
	return len(s) >= 1 && len(s) <= 12 && strings.Trim(s, "abcdefghijklmnopqrstuvwxyz") == ""
}

func wantDepth(f impl.Family, p int) int {
	depth := 0
	for _, q := range wantParents(f, p) {
		depth = max(depth, 1+wantDepth(f, q))
	}
	return depth
}

func wantParents(f impl.Family, p int) []int {
	list := []int{f.People[p].Father, f.People[p].Mother}
	return slices.DeleteFunc(list, func(q int) bool { return q == -1 })
}

func wantPerson(f impl.Family, i int) bool {
	p := f.People[i]
	for k := range i {
		if f.People[k].Name == p.Name {
			return false
		}
	}
	if !wantName(p.Name) || p.Sex != 1 && p.Sex != 2 || p.Born < 0 || p.Born > 9999 {
		return false
	}
	if p.Died != -1 && (p.Died < p.Born || p.Died > 9999) {
		return false
	}
	if x := p.Father; x != -1 {
		if x < 0 || x >= i || f.People[x].Sex != 1 || f.People[x].Born >= p.Born {
			return false
		}
		if f.People[x].Died != -1 && p.Born > f.People[x].Died+1 {
			return false
		}
	}
	if x := p.Mother; x != -1 {
		if x < 0 || x >= i || f.People[x].Sex != 2 || f.People[x].Born >= p.Born {
			return false
		}
		if f.People[x].Died != -1 && p.Born > f.People[x].Died {
			return false
		}
	}
	return wantDepth(f, i) <= 10
}

func wantUnion(f impl.Family, k int) bool {
	u, n := f.Unions[k], len(f.People)
	if u.Man < 0 || u.Man >= n || u.Woman < 0 || u.Woman >= n {
		return false
	}
	a, b := f.People[u.Man], f.People[u.Woman]
	if a.Sex != 1 || b.Sex != 2 || u.From > 9999 || u.From < a.Born || u.From < b.Born {
		return false
	}
	if u.To != -1 && (u.To < u.From || u.To > 9999) {
		return false
	}
	for _, p := range []impl.Person{a, b} {
		if p.Died != -1 && (p.Died < u.From || u.To != -1 && p.Died < u.To) {
			return false
		}
	}
	for i := range k {
		if f.Unions[i].Man == u.Man && f.Unions[i].Woman == u.Woman {
			return false
		}
	}
	return true
}

func wantFamily(f impl.Family) bool {
	if len(f.People) > 40 || len(f.Unions) > 60 {
		return false
	}
	for i := range f.People {
		if !wantPerson(f, i) {
			return false
		}
	}
	for k := range f.Unions {
		if !wantUnion(f, k) {
			return false
		}
	}
	return true
}

func wantElder(f impl.Family, a int, b int) bool {
	x, y := f.People[a].Born, f.People[b].Born
	return x < y || x == y && a < b
}

func wantByAge(f impl.Family, takes func(q int) bool) []int {
	list := []int{}
	for q := range f.People {
		if takes(q) {
			list = append(list, q)
		}
	}
	slices.SortFunc(list, func(a, b int) int {
		if wantElder(f, a, b) {
			return -1
		}
		return 1
	})
	return list
}

func wantFull(f impl.Family, p int, q int) bool {
	a, b := f.People[p], f.People[q]
	return p != q && a.Father != -1 && a.Mother != -1 && a.Father == b.Father && a.Mother == b.Mother
}

func wantHalf(f impl.Family, p int, q int) bool {
	a, b := f.People[p], f.People[q]
	common := a.Father != -1 && a.Father == b.Father || a.Mother != -1 && a.Mother == b.Mother
	return p != q && common && !wantFull(f, p, q)
}

func wantEnd(f impl.Family, k int) (int, bool) {
	u := f.Unions[k]
	if u.To != -1 {
		return u.To, true
	}
	for year := 0; year <= 9999; year++ {
		if f.People[u.Man].Died == year || f.People[u.Woman].Died == year {
			return year, true
		}
	}
	return 0, false
}

// wantPartners lists the partners of the unions that last in a year, or of all unions.
func wantPartners(f impl.Family, p int, year int, all bool) []int {
	list := []int{}
	for k, u := range f.Unions {
		end, ended := wantEnd(f, k)
		if !all && (u.From > year || ended && end <= year) {
			continue
		}
		if u.Man == p {
			list = append(list, u.Woman)
		}
		if u.Woman == p {
			list = append(list, u.Man)
		}
	}
	return list
}

func wantText(f impl.Family) string {
	dash := func(year int) string { return strings.Replace(fmt.Sprint(year), "-1", "-", 1) }
	name := func(p int) string {
		if p == -1 {
			return "-"
		}
		return f.People[p].Name
	}
	text := ""
	for _, p := range f.People {
		word := []string{"", "man", "woman"}[p.Sex]
		text += fmt.Sprintln(word, p.Name, name(p.Father), name(p.Mother), dash(p.Born), dash(p.Died))
	}
	for _, u := range f.Unions {
		text += fmt.Sprintln("union", name(u.Man), name(u.Woman), dash(u.From), dash(u.To))
	}
	return text
}

// Families made by chance, the same ones in each run.

func newChance(seed uint64) *rand.Rand { return rand.New(rand.NewPCG(seed, 7)) }

func pick(r *rand.Rand, list []int) int {
	if len(list) == 0 || r.IntN(4) == 0 {
		return -1
	}
	return list[r.IntN(len(list))]
}

func chanceFamily(r *rand.Rand) impl.Family {
	var f impl.Family
	of := map[int][]int{}
	for i := range r.IntN(impl.MaxPeople + 1) {
		p := impl.Person{Name: chanceName(r, i), Sex: 1 + r.IntN(2), Father: pick(r, of[1]), Mother: pick(r, of[2]), Died: -1}
		for _, x := range []int{p.Father, p.Mother} {
			if x != -1 {
				p.Born = max(p.Born, f.People[x].Born+1)
			}
		}
		p.Born += r.IntN(5)
		if r.IntN(2) == 0 {
			p.Died = p.Born + r.IntN(12)
		}
		f.People = append(f.People, p)
		if !wantPerson(f, i) {
			f.People[i].Father, f.People[i].Mother = -1, -1
		}
		// Few parents, so that many persons are siblings.
		if r.IntN(3) == 0 {
			of[p.Sex] = append(of[p.Sex], i)
		}
	}
	for range r.IntN(4) * 40 {
		addChanceUnion(r, &f)
	}
	return f
}

func chanceName(r *rand.Rand, i int) string {
	tail := strings.Repeat(string(rune('a'+r.IntN(26))), r.IntN(11))
	return string(rune('a'+i%20)) + string(rune('a'+i/20)) + tail[:min(len(tail), 10)]
}

func addChanceUnion(r *rand.Rand, f *impl.Family) {
	n := len(f.People)
	if n == 0 || len(f.Unions) == impl.MaxUnions {
		return
	}
	u := impl.Union{Man: r.IntN(n), Woman: r.IntN(n), To: -1}
	u.From = max(f.People[u.Man].Born, f.People[u.Woman].Born) + r.IntN(4)
	if r.IntN(2) == 0 {
		u.To = u.From + r.IntN(6)
	}
	f.Unions = append(f.Unions, u)
	if !wantUnion(*f, len(f.Unions)-1) {
		f.Unions = f.Unions[:len(f.Unions)-1]
	}
}

// parentsFirst returns an order by chance in which parents are listed before their children.
func parentsFirst(r *rand.Rand, f impl.Family) []int {
	order := []int{}
	for len(order) < len(f.People) {
		p := r.IntN(len(f.People))
		ready := !slices.Contains(order, p)
		for _, q := range wantParents(f, p) {
			ready = ready && slices.Contains(order, q)
		}
		if ready {
			order = append(order, p)
		}
	}
	return order
}
