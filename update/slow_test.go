package update

import (
	"maps"
	"slices"
	"strconv"
	"testing"

	"flatiron/api"
	"flatiron/data"
	"flatiron/find"
	"flatiron/lines"
)

// slow updates paths as the chapter puts it.
type slow struct {
	World
	Result
	done  []string
	open  []string
	stale []string
}

// update updates the path of f.
func (u *slow) update(f data.File) api.Fault {
	if slices.Contains(u.done, f.Path) {
		return api.Fault{}
	}
	n := u.Find(f)
	own, there := u.Time(f.Path)
	if !n.Rule && !there {
		return api.Fault{Code: api.ErrRule, At: f.Path}
	}
	u.open = append(u.open, f.Path)
	for _, need := range slices.Concat(n.Needs, n.Order) {
		if slices.Contains(u.open, need.Path) {
			u.Dropped = append(u.Dropped, [2]string{f.Path, need.Path})
		} else if fault := u.update(need); fault != (api.Fault{}) {
			return fault
		}
	}
	own, there = u.Time(f.Path)
	stale := n.Phony || !there
	for _, need := range n.Needs {
		t, ok := u.Time(need.Path)
		newer := ok && t > own
		if !slices.Contains(u.open, need.Path) && (newer || slices.Contains(u.stale, need.Path)) {
			stale = true
		}
	}
	u.open = u.open[:len(u.open)-1]
	u.done = append(u.done, f.Path)
	if !n.Rule || !stale {
		return api.Fault{}
	}
	u.stale = append(u.stale, f.Path)
	if len(n.Recipe) == 0 {
		return api.Fault{}
	}
	if fault := u.Make(n); fault != (api.Fault{}) {
		return fault
	}
	u.Made = append(u.Made, f.Path)
	return api.Fault{}
}

// slowGoals is Goals as the chapter puts it.
func slowGoals(x World, l ...data.File) (Result, api.Fault) {
	u := slow{World: x}
	for _, f := range l {
		if fault := u.update(f); fault != (api.Fault{}) {
			return u.Result, fault
		}
	}
	return u.Result, api.Fault{}
}

// clone returns a world with the same nodes and the same times, but no log.
func (w *world) clone() *world {
	return &world{nodes: w.nodes, times: maps.Clone(w.times), now: w.now, on: w.on}
}

// slowly checks what Goals returns and calls in w against what the chapter says, and returns it, with w as it is then.
func slowly(t *testing.T, w *world, goals []data.File) (*world, Result, api.Fault) {
	t.Helper()
	x, y := w.clone(), w.clone()
	got, f := Goals(x, goals...)
	want, g := slowGoals(y, goals...)
	if f != g || !slices.Equal(got.Made, want.Made) || !slices.Equal(got.Dropped, want.Dropped) || !slices.Equal(x.log, y.log) {
		t.Fatalf("%v, %v, %v: %q, %v, %q; want %q, %v, %q", w.nodes, w.times, goals, shown(got), f, x.log, shown(want), g, y.log)
	}
	return x, got, f
}

// once checks that what Goals has returned in w keeps P18.2: no path is made twice, none ahead of one that it needs, unless that was dropped.
func once(t *testing.T, w *world, r Result) {
	t.Helper()
	made := map[string]int{}
	for i, p := range r.Made {
		if _, ok := made[p]; ok {
			t.Fatalf("%v: %q is made twice: %q", w.nodes, p, shown(r))
		}
		made[p] = i
	}
	for p, i := range made {
		for _, f := range slices.Concat(w.nodes[p].Needs, w.nodes[p].Order) {
			j, ok := made[f.Path]
			if ok && j >= i && !slices.Contains(r.Dropped, [2]string{p, f.Path}) {
				t.Fatalf("%v: %q is made ahead of %q: %q", w.nodes, p, f.Path, shown(r))
			}
		}
	}
}

// checkAll checks what Goals returns in w, and, where nothing is phony and all that has a rule is written, that a second update makes nothing.
func checkAll(t *testing.T, w *world, goals []data.File) {
	t.Helper()
	x, r, f := slowly(t, w, goals)
	once(t, w, r)
	for _, n := range w.nodes {
		if n.Rule && (n.Phony || len(n.Recipe) == 0) {
			return
		}
	}
	if f != (api.Fault{}) {
		return
	}
	if r, f := Goals(x, goals...); f != (api.Fault{}) || len(r.Made) != 0 {
		t.Fatalf("%v, %v, %v: makes %q again, %v", w.nodes, w.times, goals, shown(r), f)
	}
}

// kinds returns the nodes that need l, and order: without a rule, without a recipe, with one, and phony.
func kinds(l, order []data.File) []find.Node {
	r := []lines.Line{{Number: 1, Text: "r"}}
	return []find.Node{
		{Needs: l, Order: order},
		{Needs: l, Order: order, Rule: true},
		{Needs: l, Order: order, Rule: true, Recipe: r},
		{Needs: l, Order: order, Rule: true, Recipe: r, Phony: true},
	}
}

// P18.1, P18.2: all worlds of a, b and c, with few needs, few times, and each kind of node, against a plain reading of the chapter.
func TestAllWorlds(t *testing.T) {
	needs := map[string][][2]string{
		"a": {{"", ""}, {"b c", ""}, {"b", "c"}, {"c", "b a"}, {"", "b"}},
		"b": {{"", ""}, {"a", ""}, {"c", "a"}, {"a c", "b"}},
		"c": {{"", ""}, {"b", ""}, {"a", "b"}, {"", "a"}},
	}
	var fill func(w *world, left []string)
	fill = func(w *world, left []string) {
		if len(left) == 0 {
			checkAll(t, w, files("a c"))
			return
		}
		for _, l := range needs[left[0]] {
			for _, n := range kinds(files(l[0]), files(l[1])) {
				w.nodes[left[0]] = n
				for time := range int64(3) {
					w.times[left[0]] = time
					if time == 0 {
						delete(w.times, left[0])
					}
					fill(w, left[1:])
				}
			}
		}
	}
	fill(&world{nodes: map[string]find.Node{}, times: map[string]int64{}, now: 9}, []string{"a", "b", "c"})
}

// P18.1, P18.2: all ways in which four paths, none of which is there, need each other, against a plain reading of the chapter.
func TestAllRings(t *testing.T) {
	var all []data.File
	for i := range 4 {
		all = append(all, file(strconv.Itoa(i)))
	}
	for set := range 1 << 16 {
		w := &world{nodes: map[string]find.Node{}, times: map[string]int64{}, now: 9}
		for i, f := range all {
			var l []data.File
			for j, need := range all {
				if set>>(4*i+j)&1 == 1 {
					l = append(l, need)
				}
			}
			half := min(len(l), 2)
			w.nodes[f.Path] = kinds(l[:half], l[half:])[2]
		}
		checkAll(t, w, []data.File{all[set%4], all[set/4%4]})
	}
}

// P18.1: a fault of each path, in each place, against a plain reading of the chapter.
func TestAllFaults(t *testing.T) {
	rows := []string{"a: b c | d;", "b: d a;", "c: e b | a;", "d: | e b;", "e: a;"}
	for bad := range 1 << len(rows) {
		for missing := range 1 << len(rows) {
			w := in("", "")
			for i, row := range rows {
				if missing>>i&1 == 0 {
					maps.Copy(w.nodes, in(row, "").nodes)
				}
				if bad>>i&1 == 1 {
					w.on[row[:1]] = func() api.Fault { return api.Fault{Code: api.ErrFail, At: row[:1], Line: i} }
				}
			}
			for _, goals := range []string{"a", "b a", "e c d", "d d b", "a b c d e"} {
				slowly(t, w, files(goals))
			}
		}
	}
}
