// Package archive has match files with versions, and merges the files of two scorers.
package archive

import "scorebook/api"

// Numbers of entries: the distance of the IDs of a new file, and the greatest ID.
const (
	Step  = 1000
	MaxID = 1 << 40
)

// Check returns the first error of a file.
func Check(f []api.Entry) api.Errno { return 0 }

// Log returns the events of a file.
func Log(f []api.Entry) []api.Event { return nil }

// File returns the file of a log: the IDs are multiples of Step.
func File(l []api.Event, scorer string) ([]api.Entry, api.Errno) { return nil, 0 }

// Merge merges two files that come from one base.
func Merge(base, a, b []api.Entry) ([]api.Entry, []api.Clash, api.Errno) { return nil, nil, 0 }

// Archive has the versions of a match file.
type Archive struct{}

// New returns an archive without versions.
func New() *Archive { return nil }

// Commit adds a version that comes from a base version (0: none); it is merged with the newest one if that is another one.
func (a *Archive) Commit(base int, f []api.Entry) (int, []api.Clash, api.Errno) { return 0, nil, 0 }

// Get returns a version.
func (a *Archive) Get(number int) ([]api.Entry, api.Errno) { return nil, 0 }

// Head returns the number of the newest version.
func (a *Archive) Head() int { return 0 }

// Base returns the base of a version.
func (a *Archive) Base(number int) (int, api.Errno) { return 0, 0 }

// Text returns the text of a file.
func Text(f []api.Entry) (string, api.Errno) { return "", 0 }

// Parse returns the file of a text.
func Parse(s string) ([]api.Entry, api.Errno) { return nil, 0 }
