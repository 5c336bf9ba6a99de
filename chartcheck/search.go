package chartcheck

import (
	"slices"

	"flightdeck/api"
	"flightdeck/chart"
)

// machine steps a valid chart, and keeps what it has computed: the same steps are looked at again and again.
type machine struct {
	chart   api.Chart
	allowed []bool
	enabled map[int][][]int // by leaf and valuation
	fired   map[string]fired
}

// fired is the result of a transition.
type fired struct {
	next    api.Config
	actions []string
}

func newMachine(c api.Chart) *machine {
	m := &machine{chart: c, enabled: map[int][][]int{}, fired: map[string]fired{}}
	for v := range 1 << len(c.Conds) {
		m.allowed = append(m.allowed, chart.Allowed(c, uint16(v)))
	}
	return m
}

// enabledIn returns the transitions that are enabled in a leaf at each valuation; none at one that is not allowed.
func (m *machine) enabledIn(leaf int) [][]int {
	l, ok := m.enabled[leaf]
	if !ok {
		for v, allowed := range m.allowed {
			var transitions []int
			if allowed {
				transitions = chart.Enabled(m.chart, leaf, uint16(v))
			}
			l = append(l, transitions)
		}
		m.enabled[leaf] = l
	}
	return l
}

// each goes through the allowed valuations in ascending order.
func (m *machine) each(leaf int, visit func(v uint16, enabled []int)) {
	for v, transitions := range m.enabledIn(leaf) {
		if m.allowed[v] {
			visit(uint16(v), transitions)
		}
	}
}

// keyOf returns a text that tells configurations of one chart apart.
func keyOf(g api.Config) string {
	key := []byte{byte(g.Leaf)}
	for _, child := range g.Memory {
		key = append(key, byte(child+1))
	}
	return string(key)
}

// fire returns the configuration after a transition that may be fired, and its actions.
func (m *machine) fire(g api.Config, transition int) (api.Config, []string) {
	key := keyOf(g) + string([]byte{byte(transition)})
	f, ok := m.fired[key]
	if !ok {
		f.next, f.actions, _ = chart.Fire(m.chart, g, transition)
		m.fired[key] = f
	}
	return f.next, f.actions
}

// step is chart.Step.
func (m *machine) step(g api.Config, v uint16) (api.Config, []string, api.Errno) {
	if !m.allowed[v] {
		return api.Config{}, nil, api.ErrArg
	}
	enabled := m.enabledIn(g.Leaf)[v]
	switch len(enabled) {
	case 0:
		return api.Config{}, nil, api.ErrNone
	case 1:
		next, actions := m.fire(g, enabled[0])
		return next, actions, api.OK
	}
	return api.Config{}, nil, api.ErrConflict
}

// trail tells how the elements of a search were found: from which one, and with which valuation.
type trail struct {
	before []int
	by     []uint16
}

func (t *trail) add(before int, by uint16) {
	t.before = append(t.before, before)
	t.by = append(t.by, by)
}

// way returns the valuations that lead to an element.
func (t *trail) way(i int) []uint16 {
	var l []uint16
	for ; t.before[i] >= 0; i = t.before[i] {
		l = append(l, t.by[i])
	}
	slices.Reverse(l)
	return l
}

// searched has the reachable configurations of a chart.
type searched struct {
	*machine
	trail
	configs []api.Config
	index   map[string]int
}

// find adds a configuration, unless it was found before.
func (s *searched) find(g api.Config, before int, by uint16) {
	key := keyOf(g)
	if _, ok := s.index[key]; ok {
		return
	}
	s.index[key] = len(s.configs)
	s.configs = append(s.configs, g)
	s.add(before, by)
}

// search finds the reachable configurations.
func search(c api.Chart) (*searched, api.Errno) {
	start, _, e := chart.Start(c)
	if e != api.OK {
		return nil, e
	}
	s := &searched{machine: newMachine(c), index: map[string]int{}}
	s.find(start, -1, 0)
	for i := 0; i < len(s.configs); i++ {
		s.each(s.configs[i].Leaf, func(v uint16, enabled []int) {
			if len(enabled) == 1 {
				next, _ := s.fire(s.configs[i], enabled[0])
				s.find(next, i, v)
			}
		})
		if len(s.configs) > MaxConfigs {
			return nil, api.ErrLimit
		}
	}
	return s, api.OK
}

// pair has a configuration of each of two charts.
type pair struct{ first, second api.Config }

// comparison has the pairs of configurations that two charts reach together.
type comparison struct {
	trail
	first, second *machine
	pairs         []pair
	seen          map[string]bool
}

func (x *comparison) find(p pair, before int, by uint16) {
	key := keyOf(p.first) + keyOf(p.second)
	if !x.seen[key] {
		x.seen[key] = true
		x.pairs = append(x.pairs, p)
		x.add(before, by)
	}
}

// differ makes a step of both charts, and reports whether they differ.
func (x *comparison) differ(i int, v uint16) bool {
	g, actions, e := x.first.step(x.pairs[i].first, v)
	h, others, f := x.second.step(x.pairs[i].second, v)
	if e != f || !slices.Equal(actions, others) {
		return true
	}
	if e == api.OK {
		x.find(pair{g, h}, i, v)
	}
	return false
}

// Equal reports whether two charts behave alike; otherwise it returns valuations after which they differ.
func Equal(c, d api.Chart) ([]uint16, bool, api.Errno) {
	g, _, e := chart.Start(c)
	if e != api.OK {
		return nil, false, e
	}
	h, _, e := chart.Start(d)
	if e != api.OK {
		return nil, false, e
	}
	if !slices.Equal(c.Conds, d.Conds) {
		return nil, false, api.ErrArg
	}
	x := &comparison{first: newMachine(c), second: newMachine(d), seen: map[string]bool{}}
	x.find(pair{g, h}, -1, 0)
	for i := 0; i < len(x.pairs); i++ {
		for v := range 1 << len(c.Conds) {
			if x.differ(i, uint16(v)) {
				return append(x.way(i), uint16(v)), false, api.OK
			}
			if len(x.pairs) > MaxConfigs {
				return nil, false, api.ErrLimit
			}
		}
	}
	return nil, true, api.OK
}
