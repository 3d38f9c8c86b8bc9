package coder

import (
	"lapidary/api"
	"lapidary/model"
)

const (
	maxModels = 16
	maxBits   = 16 // of a plain code
)

// modelSet is the models that codes name, from 0 on. A name below 0 is that of a plain code: it has symbols too, but
// none of them is counted.
type modelSet []*model.Model

// modelsOf is a model of each size.
func modelsOf(sizes []int) (modelSet, api.Errno) {
	if len(sizes) > maxModels {
		return nil, api.ErrArg
	}
	set := make(modelSet, 0, len(sizes))
	for _, n := range sizes {
		m, e := model.New(n)
		if e != api.OK {
			return nil, api.ErrArg
		}
		set = append(set, m)
	}
	return set, api.OK
}

// size tells how many symbols m has: 0, if it is none of the models.
func (set modelSet) size(m int) int {
	switch {
	case m >= 0 && m < len(set):
		return set[m].Size()
	case m < 0 && m >= -maxBits:
		return 1 << -m
	}
	return 0
}

// lacks tells that m is none of the models.
func (set modelSet) lacks(m int) bool {
	return set.size(m) == 0
}

// lacksCode tells that c is no symbol of any model.
func (set modelSet) lacksCode(c api.Code) bool {
	return c.Sym < 0 || c.Sym >= set.size(c.Model)
}

// whole is all shares of m together. Here and below, m is one of the models, and a code one of its symbols.
func (set modelSet) whole(m int) int {
	if m < 0 {
		return 1 << -m
	}
	return set[m].Total()
}

// share tells where the share of c begins, and how much it is.
func (set modelSet) share(c api.Code) (int, int) {
	if c.Model < 0 {
		return c.Sym, 1
	}
	from, count, _ := set[c.Model].Share(c.Sym)
	return from, count
}

// find is the symbol of m in whose share v lies, and false if v is beyond all of them.
func (set modelSet) find(m, v int) (int, bool) {
	if m < 0 {
		return v, v < set.whole(m)
	}
	s, e := set[m].Find(v)
	return s, e == api.OK
}

// count takes c as one that came.
func (set modelSet) count(c api.Code) {
	if c.Model >= 0 {
		set[c.Model].Count(c.Sym)
	}
}
