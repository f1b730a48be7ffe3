package tool

import (
	"slices"
	"strings"

	"strand/api"
	"strand/files"
	"strand/wire"
)

// allowed tells whether a command's kind, numbers and names may be, whatever files there are.
func allowed(c api.Command) bool {
	if !wire.Within(len(c.In), 1, mostNames(c.Kind)) {
		return false
	}
	if c.Kind != api.Verify && c.Out == "" {
		return false
	}
	return c.Kind != api.Canon || wire.Within(c.Budget, 2, api.MaxBudget) && wire.Within(c.Fan, 2, api.MaxFan)
}

// mostNames is how many names a command of this kind may have at most in In; 0, if there is no such kind.
func mostNames(kind int) int {
	switch kind {
	case api.Verify, api.Split, api.Canon:
		return 1
	case api.Compose, api.Squash:
		return api.MaxChain
	case api.Join:
		return api.MaxBlocks
	}
	return 0
}

// named tells whether all of In are files, and the names that the command may make use of are free.
func named(f *files.FS, c api.Command) bool {
	for _, name := range c.In {
		if f.Size(name) < 0 {
			return false
		}
	}
	return c.Kind == api.Verify || !slices.ContainsFunc(f.List(), func(name string) bool {
		return name == c.Out || strings.HasPrefix(name, c.Out+".")
	})
}
