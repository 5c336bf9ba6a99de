package airway

import (
	"cmp"
	"maps"
	"slices"

	"flightdeck/api"
	"flightdeck/fix"
	"flightdeck/fixed"
	"flightdeck/sphere"
)

// checkAll returns the error of the airways.
func checkAll(l []api.Airway) api.Errno {
	if len(l) > api.MaxAirways {
		return api.ErrLimit
	}
	for _, a := range l {
		if e := Check(a); e != api.OK {
			return e
		}
	}
	return api.OK
}

// hops has, for each fix, the hops that begin there, in the order of Next.
func hops(l []api.Airway) map[string][]api.Hop {
	all := map[string][]api.Hop{}
	for _, a := range l {
		for i, p := range a.Points {
			if i < len(a.Points)-1 && p.Dir != backward {
				all[p.Ref] = append(all[p.Ref], api.Hop{Airway: a.Name, To: a.Points[i+1].Ref, Alt: p.Alt})
			}
			if i > 0 && a.Points[i-1].Dir != forward {
				all[p.Ref] = append(all[p.Ref], api.Hop{Airway: a.Name, To: a.Points[i-1].Ref, Alt: a.Points[i-1].Alt})
			}
		}
	}
	return all
}

// Next returns the segments that leave a fix.
func Next(l []api.Airway, ref string) ([]api.Hop, api.Errno) {
	if e := checkAll(l); e != api.OK {
		return nil, e
	}
	return hops(l)[ref], api.OK
}

// Reach returns the references of the fixes that can be reached from a fix, ascending.
func Reach(l []api.Airway, ref string) ([]string, api.Errno) {
	if e := checkAll(l); e != api.OK {
		return nil, e
	}
	all := hops(l)
	found := map[string]bool{ref: true}
	for next := []string{ref}; len(next) > 0; next = next[1:] {
		for _, h := range all[next[0]] {
			if !found[h.To] {
				found[h.To] = true
				next = append(next, h.To)
			}
		}
	}
	return slices.Sorted(maps.Keys(found)), api.OK
}

// network has the hops of valid airways and the positions of their fixes.
type network struct {
	hops      map[string][]api.Hop
	positions map[string]api.Pos
}

// build returns the network of airways and fixes, or the first error that Shortest has ahead of its search.
func build(l []api.Airway, fixes []api.Fix, from, to string) (network, api.Errno) {
	if e := checkAll(l); e != api.OK {
		return network{}, e
	}
	if len(fixes) > api.MaxFixes {
		return network{}, api.ErrLimit
	}
	n := network{hops(l), map[string]api.Pos{}}
	for _, f := range fixes {
		if _, ok := n.positions[fix.Ref(f)]; !ok {
			n.positions[fix.Ref(f)] = f.Pos
		}
	}
	if !n.has(from) || !n.has(to) {
		return network{}, api.ErrNone
	}
	for _, a := range l {
		for _, p := range a.Points {
			if !n.has(p.Ref) {
				return network{}, api.ErrNone
			}
		}
	}
	for _, a := range l {
		for i := range len(a.Points) - 1 {
			if _, e := sphere.Dist(n.positions[a.Points[i].Ref], n.positions[a.Points[i+1].Ref]); e != api.OK {
				return network{}, e
			}
		}
	}
	return n, api.OK
}

func (n network) has(ref string) bool {
	_, ok := n.positions[ref]
	return ok
}

// length returns the length of a hop.
func (n network) length(from string, h api.Hop) int64 {
	d, _ := sphere.Dist(n.positions[from], n.positions[h.To])
	return d
}

// ahead orders labels by what is settled first.
func ahead(a, b api.Label) int {
	return cmp.Or(cmp.Compare(a.Length, b.Length), cmp.Compare(a.Hops, b.Hops), cmp.Compare(a.Ref, b.Ref))
}

// labels returns the labels of all fixes that can be reached.
func (n network) labels(from string) map[string]api.Label {
	settled := map[string]api.Label{}
	open := map[string]api.Label{from: {Ref: from}}
	for len(open) > 0 {
		nearest := slices.MinFunc(slices.Collect(maps.Values(open)), ahead)
		delete(open, nearest.Ref)
		settled[nearest.Ref] = nearest
		for _, h := range n.hops[nearest.Ref] {
			next := api.Label{Ref: h.To, Length: nearest.Length + n.length(nearest.Ref, h), Hops: nearest.Hops + 1}
			_, done := settled[h.To]
			known, isOpen := open[h.To]
			if !done && (!isOpen || ahead(next, known) < 0) {
				open[h.To] = next
			}
		}
	}
	return settled
}

// Shortest returns a shortest way over airways with the labels that prove it.
func Shortest(l []api.Airway, fixes []api.Fix, from, to string) (api.Way, api.Errno) {
	n, e := build(l, fixes, from, to)
	if e != api.OK {
		return api.Way{}, e
	}
	settled := n.labels(from)
	end, ok := settled[to]
	if !ok {
		return api.Way{}, api.ErrGeom
	}
	w := api.Way{Length: end.Length}
	for _, ref := range slices.Sorted(maps.Keys(settled)) {
		w.Labels = append(w.Labels, settled[ref])
	}
	for at := end; at.Hops > 0; {
		before, h := n.last(w.Labels, at)
		w.Hops = append(w.Hops, h)
		at = before
	}
	slices.Reverse(w.Hops)
	return w, api.OK
}

// last returns the hop with which a shortest way to a label ends, and the label ahead of it.
func (n network) last(labels []api.Label, at api.Label) (api.Label, api.Hop) {
	for _, before := range labels {
		if before.Hops != at.Hops-1 {
			continue
		}
		for _, h := range n.hops[before.Ref] {
			if h.To == at.Ref && before.Length+n.length(before.Ref, h) == at.Length {
				return before, h
			}
		}
	}
	return api.Label{}, api.Hop{}
}

// CheckWay returns the first error of a way and its labels.
func CheckWay(l []api.Airway, fixes []api.Fix, from, to string, w api.Way) api.Errno {
	n, e := build(l, fixes, from, to)
	if e != api.OK {
		return e
	}
	for i := 1; i < len(w.Labels); i++ {
		if w.Labels[i].Ref <= w.Labels[i-1].Ref {
			return api.ErrForm
		}
	}
	lengths := map[string]int64{}
	for _, label := range w.Labels {
		lengths[label.Ref] = label.Length
	}
	if length, ok := lengths[from]; !ok || length != 0 {
		return api.ErrForm
	}
	if e := n.prove(lengths); e != api.OK {
		return e
	}
	return n.follow(lengths, from, to, w)
}

// prove returns ErrOrder unless no hop leads to a lesser length than the labels say.
func (n network) prove(lengths map[string]int64) api.Errno {
	for ref, length := range lengths {
		for _, h := range n.hops[ref] {
			next, ok := lengths[h.To]
			// A sum that is too great for an int64 is greater than every label.
			if !ok || next > fixed.Add(length, n.length(ref, h)) {
				return api.ErrOrder
			}
		}
	}
	return api.OK
}

// follow returns the first error of the hops and the length of a way.
func (n network) follow(lengths map[string]int64, from, to string, w api.Way) api.Errno {
	at, sum := from, int64(0)
	for _, h := range w.Hops {
		if !slices.Contains(n.hops[at], h) {
			return api.ErrNone
		}
		sum += n.length(at, h)
		at = h.To
	}
	if at != to {
		return api.ErrNone
	}
	if sum != w.Length {
		return api.ErrArg
	}
	if length, ok := lengths[to]; !ok || length != w.Length {
		return api.ErrConflict
	}
	return api.OK
}
