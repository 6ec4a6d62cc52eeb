package find

import (
	"slices"

	"flatiron/api"
	"flatiron/data"
	"flatiron/path"
	"flatiron/stem"
)

// search is the search for the pattern that completes a node.
type search struct {
	*data.Data
	there func(p string) bool
	asked int                 // how many targets were looked for one by one
	paths map[string]struct{} // of all targets, once they are worth it
}

// enough is how many targets are looked for one by one: by then that has taken as long as it takes to put the paths of all of them into a map.
const enough = 32

// complete returns the node as the first pattern that applies completes it; the node itself, if none does.
func (s *search) complete(n Node) Node {
	for _, p := range s.Patterns {
		if len(p.Recipe) == 0 {
			continue
		}
		part, ok := stem.Match(p.Target, n.Name)
		if !ok {
			continue
		}
		needs, ok := s.files(p.Needs, part)
		if !ok {
			continue
		}
		order, ok := s.files(p.Order, part)
		if !ok {
			continue
		}
		n.Needs, n.Order = before(needs, n.Needs), before(order, n.Order)
		n.Recipe, n.Line, n.Stem, n.Rule = slices.Clip(p.Recipe), p.Line, part, true
		return n
	}
	return n
}

// files returns the words of a pattern, with the stem put into each, as files of the directory; false if one of them keeps the pattern from applying.
func (s *search) files(l []string, part string) ([]data.File, bool) {
	var files []data.File
	for _, w := range l {
		name := stem.Put(w, part)
		p, code := path.Join(s.Dir, name)
		if code != api.OK || !s.there(p) && !s.target(p) {
			return nil, false
		}
		files = append(files, data.File{Path: p, Name: name})
	}
	return files, true
}

// target reports whether there is an explicit target with the path p.
func (s *search) target(p string) bool {
	if s.asked < enough {
		s.asked++
		_, ok := s.Get(p)
		return ok
	}
	if s.paths == nil {
		s.paths = make(map[string]struct{}, len(s.Targets))
		for _, t := range s.Targets {
			s.paths[t.Path] = struct{}{}
		}
	}
	_, ok := s.paths[p]
	return ok
}

// before returns the files of a pattern, which are new, with those that a node has behind them; or the latter themselves, if they are all.
func before(added, own []data.File) []data.File {
	if len(added) == 0 {
		return own
	}
	return append(added, own...)
}
