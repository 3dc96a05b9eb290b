package states

import (
	"slices"
	"sync"
	"testing"

	"tessera/syntax"
)

func planOf(t *testing.T, src string) *Plan {
	t.Helper()
	list, at, ok := syntax.Read(src)
	if !ok {
		t.Fatalf("%q is no text of rules: %d", src, at)
	}
	return Make(list)
}

func setOf(numbers ...int) Set {
	var set Set
	for _, number := range numbers {
		set = set.with(number)
	}
	return set
}

func TestSets(t *testing.T) {
	set := setOf(3, 0, 59, firstEnd+7, firstEnd+2)
	if got := slices.Collect(set.atoms()); !slices.Equal(got, []int{0, 3, 59}) {
		t.Errorf("the atoms are %v", got)
	}
	for atom := range set.atoms() {
		if atom > 0 {
			t.Errorf("atom %d is told to one who asked for no more", atom)
		}
		break
	}
	if set.Rule() != 2 || setOf(63).Rule() != -1 || setOf(firstEnd).Rule() != 0 {
		t.Errorf("the rules are %d, %d, %d", set.Rule(), setOf(63).Rule(), setOf(firstEnd).Rule())
	}
	if set != setOf(firstEnd+2, 59, 3).union(setOf(firstEnd+7, 0, 3)) || set == setOf(0, 3, 59) {
		t.Error("sets alike are not the same, or others are")
	}
	for number := range 72 {
		one := setOf(number)
		if one.Meets(set) != slices.Contains([]int{0, 3, 59, firstEnd + 2, firstEnd + 7}, number) || one.Meets(set) != set.Meets(one) {
			t.Errorf("%d meets %v: %v", number, set, one.Meets(set))
		}
	}
}

func TestPlan(t *testing.T) {
	p := planOf(t, "a=x(y|z)*x?\nb=[xy]")
	for i, want := range []Set{
		setOf(1, 2, 3, firstEnd), setOf(1, 2, 3, firstEnd), setOf(1, 2, 3, firstEnd), setOf(firstEnd), setOf(firstEnd + 1),
	} {
		if p.next[i] != want {
			t.Errorf("behind atom %d comes %v, want %v", i, p.next[i], want)
		}
	}
	for b, want := range map[byte]Set{'x': setOf(0, 3, 4), 'y': setOf(1, 4), 'z': setOf(2), 'w': {}, 0: {}, 255: {}} {
		if p.match[b] != want {
			t.Errorf("%q is matched by %v, want %v", b, p.match[b], want)
		}
	}
	if p.first() != setOf(0, 4) {
		t.Errorf("the first state is %v", p.first())
	}
	behind := p.step(p.first(), 'x')
	if behind != setOf(1, 2, 3, firstEnd, firstEnd+1) || behind.Rule() != 0 {
		t.Errorf("behind x is %v", behind)
	}
	if p.step(p.first(), 'y') != setOf(firstEnd+1) || p.step(p.first(), 'z') != (Set{}) {
		t.Errorf("behind y is %v, behind z %v", p.step(p.first(), 'y'), p.step(p.first(), 'z'))
	}
}

func TestPlanOfRepeats(t *testing.T) {
	for src, want := range map[string]Set{
		"a=x?":  setOf(firstEnd),
		"a=x+":  setOf(0, firstEnd),
		"a=x*":  setOf(0, firstEnd),
		"a=x?+": setOf(0, firstEnd),
		"a=xy":  setOf(1),
		"a=xy?": setOf(1, firstEnd),
	} {
		if p := planOf(t, src); p.next[0] != want {
			t.Errorf("%q: behind x comes %v, want %v", src, p.next[0], want)
		}
	}
}

func TestGoesOn(t *testing.T) {
	for number := range firstEnd + 8 {
		if setOf(number).GoesOn() != (number < firstEnd) || !setOf(number, 5).GoesOn() {
			t.Errorf("%d goes on: %v", number, setOf(number).GoesOn())
		}
	}
	if (Set{}).GoesOn() || !Atoms().GoesOn() || Atoms().Rule() != -1 {
		t.Errorf("nothing goes on: %v, all atoms: %v", Set{}.GoesOn(), Atoms().GoesOn())
	}
}

func TestInto(t *testing.T) {
	p := planOf(t, "a=xyz\nb=xx*")
	if got := p.Into('x', Atoms()); got != setOf(0, 3, 4) {
		t.Errorf("x goes on by %v", got)
	}
	if got := p.Into('x', setOf(1)); got != setOf(0) {
		t.Errorf("x leads to y by %v", got)
	}
	if got := p.Into('z', Atoms()); got != (Set{}) {
		t.Errorf("z goes on by %v", got)
	}
	if got := p.Into('z', setOf(firstEnd)); got != setOf(2) {
		t.Errorf("z leads to the end of a by %v", got)
	}
	if p.Into('y', Set{}) != (Set{}) || p.Into('w', Atoms()) != (Set{}) {
		t.Error("something leads where nothing does")
	}
}

func TestBack(t *testing.T) {
	p := planOf(t, "a=xyz\nb=xx*")
	none := p.Back('y', Set{})
	if none != (Set{}) || p.Back('z', none) != setOf(2) {
		t.Errorf("y leads by %v, z by %v", none, p.Back('z', none))
	}
	if got := p.Back('x', p.Back('y', p.Back('z', Set{}))); got != setOf(0, 3, 4) {
		t.Errorf("xyz leads by %v", got)
	}
	if got := p.Back('x', p.Back('y', Set{})); got != setOf(3, 4) {
		t.Errorf("xy leads by %v", got)
	}
}

// Ways: the first state is worked out once, and only when it is asked for.
func TestFirstIsWorkedOutOnce(t *testing.T) {
	p := planOf(t, "a=x\nb=y")
	table := NewTable(p, 2)
	if table.Held() != 0 {
		t.Errorf("%d states are held ahead of all questions", table.Held())
	}
	want := setOf(0, 1)
	var group sync.WaitGroup
	for range 8 {
		group.Go(func() {
			if got := table.First(); got != want {
				t.Errorf("First = %v, want %v", got, want)
			}
		})
	}
	group.Wait()
	p.begin = nil
	if table.First() != want || table.Held() != 1 {
		t.Errorf("asked again, First = %v, and %d states are held", table.First(), table.Held())
	}
}

func TestTableStepsAsThePlan(t *testing.T) {
	p := planOf(t, "a=(x|y)*x(x|y)(x|y)(x|y)\nb=z")
	for _, room := range []int{2, 3, 9, 1000} {
		table := NewTable(p, room)
		met := map[Set]int{}
		for round := range 3 {
			from := table.First()
			met[from]++
			for i := range 500 {
				b := "xyyxxxyxyzw"[(i*i+round)%11]
				got := table.Step(from, b)
				if got != p.step(from, b) {
					t.Fatalf("from %v by %q to %v, want %v", from, b, got, p.step(from, b))
				}
				if got != (Set{}) {
					met[got]++
				}
				if table.Held() != min(room, len(met)) {
					t.Fatalf("%d states are held with room %d, %d were met", table.Held(), room, len(met))
				}
				from = got
				if from == (Set{}) {
					from = table.First()
				}
			}
		}
	}
}

// A table that worked everything out anew each time would be none.
func TestTableRemembers(t *testing.T) {
	p := planOf(t, "a=x+y")
	table := NewTable(p, 2)
	behind := table.Step(table.First(), 'x')
	p.next[0] = Set{}
	if got := table.Step(table.First(), 'x'); got != behind || behind == (Set{}) {
		t.Errorf("asked again, x leads to %v, not to %v", got, behind)
	}
}

// What leads nowhere takes no room from states.
func TestTableDoesNotHoldTheEmptySet(t *testing.T) {
	table := NewTable(planOf(t, "a=x+y"), 2)
	first := table.First()
	if got := table.Step(first, 'w'); got != (Set{}) || table.Held() != 1 {
		t.Errorf("w leads to %v, and %d states are held", got, table.Held())
	}
	if table.Step(first, 'x'); table.Held() != 2 {
		t.Errorf("%d states are held, not 2", table.Held())
	}
}
