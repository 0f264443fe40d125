/-
  What the kit says of slices, under its elder name.
-/
import Derived.Test.YthblniakghfchaaDoorBring
